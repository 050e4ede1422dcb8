"""The texts of headers and of lines of parts, and what is nearly such a text."""

from tests.helper import Case

NAMES = ("a", "7", "-", "a-b", "-a-", "main loop", "a b c", "0 -", "a" * 30, "a" * 14 + " " + "b" * 15)
NO_NAMES = ("", " ", " a", "a ", "a  b", "A", "aB", "a_b", "a.b", "a/b", "a|b", "a`", "a{", "a:", "a" * 31, "a" * 15 + " " + "b" * 15)
SHORT_NAMES = ("a", "z", "a1", "fast", "a" * 12, "a" + "9" * 11)
NO_SHORT_NAMES = ("", " ", "1", "1a", "A", "aB", "a-b", "a b", "a_", "a`", "a{", "a:", "a/", " a", "a ", "a" * 13)
ARGUMENTS = ("", "x", "1 2", "A.b;c", "|x|", "[1]", "<n>", "\"'", "x" * 40, "x" + " " * 38 + "y")
NO_ARGUMENTS = (" ", " x", "x ", "x,y", "x (", "x)", "(x)", "{", "}", "@", "@@", "a@<n>", "x" * 41)


class NameTest(Case):
    def test_names(self):
        for name in NAMES:
            self.assert_header("@chunk " + name)
            self.assert_header("@chunk " + name + "(n)")
            self.assert_part_line("@{" + name + "}")
            self.assert_part_line("@{" + name + "(x)}")

    def test_no_names(self):
        for name in NO_NAMES:
            self.assert_no_header("@chunk " + name)
            self.assert_no_header("@chunk " + name + "(n)")
            self.assert_no_part_line("@{" + name + "}")
            self.assert_no_part_line("@{" + name + "(x)}")


class HeaderTest(Case):
    def test_paths(self):
        for path in ("a", "Z", "0", ".", "_", "/", "-", "src/Main_1.py", "../x-y", "a" * 40):
            self.assert_header("@file " + path)

    def test_no_paths(self):
        for path in ("", " ", " a", "a ", "a b", "a(n)", "a~", "a,b", "a@b", "a\\b", "a:b", "[", "`", "a" * 41):
            self.assert_no_header("@file " + path)

    def test_words_of_headers(self):
        for line in ("@chunka", "@chunks a", "@files a", "@filea", "@ chunk a", "@FILE a", "@chunk"):
            self.assert_no_header(line)

    def test_parameters(self):
        for short in SHORT_NAMES:
            self.assert_header("@chunk x(" + short + ")")
        for listed in ("n", "n, m", "n, m, o", "n, m, o, p"):
            self.assert_header("@chunk x(" + listed + ")")

    def test_no_parameters(self):
        for short in NO_SHORT_NAMES:
            self.assert_no_header("@chunk x(" + short + ")")
            self.assert_no_header("@chunk x(n, " + short + ")")
        for listed in ("n, m, o, p, q", "n, n", "n, m, n", "n,m", "n,  m", "n , m", "n, ", ", n", ",", "(n)", "n)"):
            self.assert_no_header("@chunk x(" + listed + ")")

    def test_brackets(self):
        for line in ("x(n", "x(", "x)", "xn)", "x (n)", "x(n) ", "x(n)y", "x(n)(m)", "(n)", "x{n}"):
            self.assert_no_header("@chunk " + line)


class UseTest(Case):
    def test_arguments(self):
        for argument in ARGUMENTS:
            self.assert_part_line("@{x(" + argument + ")}")
            self.assert_part_line("@{x(a, " + argument + ")}")
            self.assert_part_line("@{x(" + argument + ", b, " + argument + ")}")

    def test_no_arguments(self):
        for argument in NO_ARGUMENTS:
            self.assert_no_part_line("@{x(" + argument + ")}")
            self.assert_no_part_line("@{x(a, " + argument + ")}")
            self.assert_no_part_line("@{x(" + argument + ", b)}")

    def test_many_arguments(self):
        self.assert_part_line("@{x(" + ", ".join(["1"] * 64) + ")}")
        self.assert_part_line("@{x(, , )}")

    def test_nearly_uses(self):
        for line in ("@{x", "@{", "@{}", "@{()}", "@{x(}", "@{x)}", "@{x(a}", "@{x(a)", "@{x(a) }", "@{x (a)}",
                     "@{x(a)b}", "@{x()()}", "@{x(a,b)}", "@{x(a,)}", "@{x(,)}", "@{x(a , b)}", "@{x(a,  b)}",
                     "@{@{x}}", "@{x(@{y})}", "@ {x}", "@x", "@(x)", "@xx}", "@|x}", "@~x}", "@(x}"):
            self.assert_no_part_line(line)
            self.assert_no_part_line("a " + line)

    def test_several_uses(self):
        self.assert_part_line("@{x}@{y(1)} and @{x()}")


class LiteralTest(Case):
    def test_ats_are_doubled(self):
        for line in ("@@", "@@@@", "a@@b", "@@{x", "@@<", "@@end", "@@if", "@@@{x}", "@@@<n>", "@{x}@@"):
            self.assert_part_line(line)

    def test_ats_that_are_not_doubled(self):
        for line in ("@", "@@@", "a@", "a@b", "@@@end", "@@@@@", "@{x}@", "@ @", "@@@@{x}@"):
            self.assert_no_part_line(line)

    def test_other_signs(self):
        for line in ("", " ", "}", ">", "{x}", "<n>", "x(a)", "|", "[4]", "~", "#1", "-uses 1", "=a: 1"):
            self.assert_part_line(line)


class ParameterTest(Case):
    def test_parameters(self):
        for line in ("@<n>", "@<m2>", "@<n>@<m2>", "x@<n>y", "@<n>>", "@{x}@<n>"):
            self.assert_part_line(line)
        for short in SHORT_NAMES:
            self.assert_blocks(1, "@chunk x(" + short + ")", "@<" + short + ">", "@end")

    def test_no_parameters(self):
        for short in NO_SHORT_NAMES:
            self.assert_no_part_line("@<" + short + ">")
        for line in ("@<n", "@<", "@n>", "@xn>", "@(n>", "@~n>", "@ n>", "@< n>", "@<n >", "@<n, m2>", "@<n(a)>", "@<<n>>"):
            self.assert_no_part_line(line)


class ConditionTextTest(Case):
    def test_settings(self):
        for short in SHORT_NAMES:
            self.assert_blocks(1, "@chunk x", "@if " + short, "@else", "@fi", "@end")

    def test_no_settings(self):
        for short in NO_SHORT_NAMES:
            self.assert_fault(2, 3, "@chunk x", "@if " + short, "@fi", "@end")

    def test_nearly_conditions(self):
        for line in ("@if", "@iff", "@IF a", "@if a b", "@else ", "@elses", "@els", "@fi ", "@fis", "@f", " @if a",
                     "x@fi", "@else@fi", "@endif"):
            self.assert_fault(3, 3, "@chunk x", "@if s", line, "@fi", "@end")

    def test_doubled_at_is_code(self):
        self.assert_blocks(1, "@chunk x", "@@if s", "@@else", "@@fi", "@end")
