"""unweave: the document read off what it is woven into, and refused texts."""

from tests.helper import Case, EXAMPLE, chunk, coded, file, quotes, read, run, size, text, unweave, unweave_bytes, weave
from tests.helper import woven

WOVEN = woven(*EXAMPLE)
# The example, with a ~ for each byte that may be any other sign, or be left out, in a woven text.
FREE = [
    " ~~~~|sum|~~~~~~~~",
    "#1 chunk main loop(n) > 3",
    ":@{sum}[4]@{print(~)}[?]~@@",
    "-used in 2",
    "-uses 4, ?",
    "#2 file out",
    ":@if fast",
    ":~~@{main loop(~)}[1]",
] + WOVEN[8:]
WIDE_PROSE = ["p" * 199] * 99


def changed(lines, k, *new):
    return lines[:k] + list(new) + lines[k + 1:]


class UnweaveTest(Case):
    def test_empty_text(self):
        self.assertEqual(run(unweave_bytes([]), size(), weave()), [[0], [0] * 5, [0]])
        self.assertEqual(run(read("a"), unweave_bytes([]), size()), [[0, 1], [0], [0] * 5])

    def test_answer(self):
        self.assertEqual(run(unweave(" a", " b")), [[2]])
        self.assertEqual(run(unweave("#1 chunk a", "=a: 1")), [[1]])

    def test_prose(self):
        self.assert_unweaves("plain", "", " ", "  two blanks", "@@", "@@chunk a", "@@ @x", "~", "a|b")

    def test_prose_that_looks_like_woven_lines(self):
        self.assert_unweaves("#1 chunk a", ":@{a}[1]", "-used in 1", "-uses 1", "=a: 1", "=file a: 1", " =if a: 1")
        self.assert_unweaves("@chunk a", "@{a}", "@end", "#2 chunk a < 1", ":x", "-used in 1", "-uses 1", "=a: 1")

    def test_parts_without_lines(self):
        self.assert_unweaves("@chunk a", "@end", "@file a", "@end", "@chunk a", "@end", "x", "@chunk b", "@end")

    def test_code_that_looks_like_other_lines(self):
        self.assert_unweaves("@chunk a", "", " ", "#1 chunk a", ":x", "-uses 1", "=a: 1", "@@end", "@@", "end", "@end")

    def test_doubled_ats(self):
        self.assert_unweaves("@chunk a", "@@@@{b}@@{c}", "@@@{d}@@", "@@<n>", "@end", "@@@")

    def test_arguments(self):
        self.assert_unweaves("@chunk a", "@{a([)}@{a(])}@{a([1], [?])}@{b()}@{b(, )}@{c([, ])}", "@end")
        self.assert_unweaves("@chunk a", "@{a(<, > 1)}x@{b(x y)}", "@end")

    def test_literals_that_look_like_numbers(self):
        self.assert_unweaves("@chunk a", "@{a}[1]", "@{b}[?]", "@{a}]", "@{a}[", "[1]@{a}[1][1]@{b}[2]x]", "[1]", "@end")

    def test_parameters(self):
        self.assert_unweaves("@chunk a(n)", "@<n>[1]@<n>", "@end", "@chunk b(n, m2, o, p)", "@<m2>@{a(1)}@<p>", "@end")

    def test_conditions(self):
        self.assert_unweaves("@file f", "@if a", "@if b", "x", "@else", "@if a", "@fi", "@fi", "@else", "@fi", "@end")

    def test_several_parts(self):
        self.assert_unweaves(*["@chunk a(n)", "@{b}", "@end", "@file a", "@{a(1)}", "@end"] * 5)

    def test_names_without_parts(self):
        self.assert_unweaves("|a| |c|", "@file f", "@{b}@{a}@{b}", "@end", "|b|a|c|")

    def test_names_that_look_like_files_and_settings(self):
        self.assert_unweaves("@chunk if a", "@end", "@chunk file a", "@{if a}", "@end", "@file a", "@if a", "@fi", "@end")
        self.assert_unweaves("@chunk chunk a", "@end", "@file file", "@{end}@{nowhere}", "@end", "@chunk 1", "@end")

    def test_numbers_of_two_digits(self):
        lines = []
        for k in range(60):
            lines += [f"@chunk c{k % 13}", f"@{{c{(k * 7) % 14}}}", "@end", f"|c{k}| and |c{k - 1}|"]
        self.assert_unweaves(*lines)

    def test_longest_lines(self):
        self.assert_unweaves("p" * 200, "@chunk a", "@{a}" * 50, "x" * 200, "@end")

    def test_most_blocks_and_parts(self):
        self.assert_unweaves(*["@chunk a", "@end"] * 60, *["p"] * 140)

    def test_most_lines(self):
        self.assert_unweaves("@file f", *["x"] * 400, "@end")

    def test_all_that_is_held(self):
        found = run(unweave(*WOVEN), chunk("sum"), file("out"), quotes(0), read("b"), unweave(*WOVEN), chunk("sum"))
        self.assertEqual(found, [[5], [1, 4, 2, 1, 3, 1, 1], [1, 2], [1, 3, 115, 117, 109], [0, 1], [5],
                                 [1, 4, 2, 1, 3, 1, 1]])


class ChangedTest(Case):
    def assert_woven_or_not(self, is_woven, row):
        found = run(unweave_bytes(row), weave())
        if is_woven:
            self.assertEqual(found, [[5], [len(row)] + row], bytes(row))
        else:
            self.assertEqual(found, [[-1], [0]], bytes(row))

    def each_byte(self):
        """Each place of the example's text, and whether its byte may be another one."""
        for place, byte in enumerate(coded("\n".join(FREE) + "\n")):
            yield place, byte == ord("~")

    def test_byte_changed(self):
        row = text(*WOVEN)
        for place, is_free in self.each_byte():
            self.assert_woven_or_not(is_free, row[:place] + [126] + row[place + 1:])
            for byte in (0, 31, 127, 255):
                self.assert_woven_or_not(False, row[:place] + [byte] + row[place + 1:])

    def test_byte_left_out(self):
        row = text(*WOVEN)
        for place, is_free in self.each_byte():
            self.assert_woven_or_not(is_free, row[:place] + row[place + 1:])

    def test_byte_doubled(self):
        row = text(*WOVEN)
        # Doubled, a line's first byte or a number's bracket may be the prose's or the code's own; and behind the
        # second bar, one more takes the last one for its partner.
        free = [0, len(" See |sum")] + [len(text(*WOVEN[:k])) for k in (2, 7, 11)]
        free += [place for place, byte in enumerate(row) if byte == ord("]")]
        for place, is_free in self.each_byte():
            self.assert_woven_or_not(is_free or place in free, row[:place + 1] + row[place:])

    def test_line_left_out(self):
        for k in range(len(WOVEN)):
            self.assert_not_woven(*changed(WOVEN, k))

    def test_line_doubled(self):
        # Code may stand there twice.
        for k in [k for k in range(len(WOVEN)) if k not in (2, 7, 11)]:
            self.assert_not_woven(*changed(WOVEN, k, WOVEN[k], WOVEN[k]))
        for k in (2, 7, 11):
            self.assertEqual(run(unweave(*changed(WOVEN, k, WOVEN[k], WOVEN[k]))), [[5]])

    def test_line_moved(self):
        # The code line may stand ahead of the condition, or behind it.
        for k in [k for k in range(len(WOVEN) - 1) if k not in (6, 7)]:
            self.assert_not_woven(*WOVEN[:k], WOVEN[k + 1], WOVEN[k], *WOVEN[k + 2:])
        for k in range(1, len(WOVEN)):
            self.assert_not_woven(*WOVEN[k:], *WOVEN[:k])

    def test_number_changed(self):
        for k, line in enumerate(WOVEN):
            for place, sign in enumerate(line):
                if sign in "1234?" and FREE[k][place] != "~":
                    for new in [new for new in ("0", "1", "2", "3", "4", "5", "?", "-1", "01", "", "60") if new != sign]:
                        self.assert_not_woven(*changed(WOVEN, k, line[:place] + new + line[place + 1:]))

    def test_last_line_not_ended(self):
        for row in (coded(" a"), text(" a") + coded(" b"), text(*WOVEN)[:-1], coded(" "), text(" a") + [32]):
            self.assertEqual(run(unweave_bytes(row)), [[-1]])

    def test_cut_off(self):
        row = text(*WOVEN)
        prose = text(WOVEN[0])
        self.assertEqual(run(unweave_bytes(prose)), [[1]])
        for end in [end for end in range(1, len(row)) if end != len(prose)]:
            self.assert_woven_or_not(False, row[:end])

    def test_source_text(self):
        self.assert_not_woven(*EXAMPLE)


class LineTest(Case):
    def test_lines_of_no_kind(self):
        for line in ("", "a", "@chunk a", "@end", "@@", "\t", "*1 chunk a", "~", "#", "-", "=", "|", "9"):
            self.assert_not_woven(line)
            self.assert_not_woven(" a", line)

    def test_prose(self):
        for line in (" @", " @chunk a", " @end", " @ @", " a\tb", " \x7f", " \xff", " " + "p" * 201):
            self.assert_not_woven(line)
            self.assert_not_woven("#1 chunk a", line, "=a: 1")

    def test_headers(self):
        for header in ("#1 chunk a", "#1 chunk a()", "#1 chunk a b-2(n, m)"):
            name = header[9:].split("(")[0]
            is_header = "()" not in header
            self.assertEqual(run(unweave(header, f"={name}: 1")), [[1 if is_header else -1]])
        for header in ("#0 chunk a", "#2 chunk a", "#01 chunk a", "#? chunk a", "# chunk a", "#chunk a", "#1  chunk a",
                       "#1 @chunk a", "#1 chunk a ", "#1 chunk  a", "#1chunk a", "#1 chunk a <", "#1 chunk a < 0",
                       "#1 chunk a < 1", "#1 chunk a > 2", "#1 chunk a > ?", "#1 chunk a<", "#1 <", "#<", "#1 end",
                       "#1 chunk", "#1", "#1 ", "#", "#1 chunk a\x80", "##1 chunk a", "#-1 chunk a", "#+1 chunk a"):
            self.assert_not_woven(header, "=a: 1")

    def test_file_headers(self):
        self.assertEqual(run(unweave("#1 file a", "=file a: 1")), [[1]])
        self.assert_not_woven("#1 file a", "=a: 1")
        self.assert_not_woven("#1 file a b", "=file a b: 1")
        self.assert_not_woven("#1 file ", "=file : 1")
        self.assert_not_woven("#1 file " + "a" * 41, "=file " + "a" * 41 + ": 1")

    def test_neighbours(self):
        lines = ["#1 chunk a > 3", "#2 file a", "#3 chunk a < 1 > 4", "#4 chunk a < 3", "=a: 1, 3, 4", "=file a: 2"]
        self.assertEqual(run(unweave(*lines)), [[4]])
        for k, line in ((0, "#1 chunk a"), (0, "#1 chunk a > 4"), (0, "#1 chunk a > 2"), (0, "#1 chunk a < 3"),
                        (0, "#1 chunk a > 3 "), (0, "#1 chunk a > 3 > 3"), (0, "#1 chunk a  > 3"), (0, "#1 chunk a> 3"),
                        (0, "#1 chunk a > 03"), (0, "#1 chunk a < 0 > 3"), (1, "#2 file a > 3"), (1, "#2 file a < 1"),
                        (2, "#3 chunk a > 4 < 1"), (2, "#3 chunk a < 1"), (2, "#3 chunk a > 4"), (2, "#3 chunk a <1 > 4"),
                        (2, "#3 chunk a < 1, > 4"), (2, "#3 chunk a < 2 > 4"), (3, "#4 chunk a < 1"), (3, "#4 chunk a"),
                        (3, "#4 chunk a < 3 > 5"), (3, "#4 chunk a < ?")):
            self.assert_not_woven(*changed(lines, k, line))

    def test_other_parameters(self):
        self.assertEqual(run(unweave("#1 chunk a(n) > 2", "#2 chunk a(n) < 1", "=a: 1, 2")), [[2]])
        for other in ("a", "a(m)", "a(n, m)"):
            self.assert_not_woven("#1 chunk a(n) > 2", f"#2 chunk {other} < 1", "=a: 1, 2")

    def test_lines_without_a_part(self):
        self.assert_not_woven(":x")
        self.assert_not_woven(" a", ":x")
        self.assert_not_woven("#1 file a", " a", ":x", "=file a: 1")
        self.assert_not_woven("#1 file a", "=file a: 1", ":x")
        self.assert_not_woven("-uses 1")
        self.assert_not_woven("=a: nowhere")

    def test_blocks_behind_the_index(self):
        self.assert_not_woven("#1 file a", "=file a: 1", " a")
        self.assert_not_woven("=file a: 1", "#1 file a")
        self.assert_not_woven("#1 file a", "=file a: 1", "#2 file b", "=file b: 2")

    def test_lines_of_parts(self):
        lines = ["#1 file f", ":", "=file f: 1"]
        self.assertEqual(run(unweave(*lines)), [[1]])
        for line in (":@end", ":@", ":@{a", ":@{}", ":@{A}[?]", ":@<n>", ":@<n", ":@fi", ":@else", ":@if", ":@if A", ":@x",
                     ":a\x07", ":\xe4", ":" + "x" * 201, ": @if a", "", "x"):
            self.assert_not_woven(*changed(lines, 1, line))

    def test_conditions(self):
        start, end = ["#1 file f"], ["=file f: 1", "=if s: 1"]
        self.assertEqual(run(unweave(*start, *[":@if s"] * 6, *[":@fi"] * 6, *end)), [[1]])
        for lines in ([":@if s"], [":@if s", ":@fi", ":@fi"], [":@if s", ":@else", ":@else", ":@fi"], [":@fi", ":@if s"],
                      [":@if s"] * 7 + [":@fi"] * 7, [":@if s", ":@fi "], [":@if s[1]", ":@fi"]):
            self.assert_not_woven(*start, *lines, *end)

    def test_numbers_behind_uses(self):
        lines = ["#1 chunk a", ":@{a}[1]@{b}[?]", "-used in 1", "-uses 1, ?", "=a: 1; used in 1",
                 "=b: nowhere; used in 1"]
        self.assertEqual(run(unweave(*lines)), [[1]])
        for line in (":@{a}[?]@{b}[?]", ":@{a}[1]@{b}[1]", ":@{a}[1]@{b}[0]", ":@{a}[2]@{b}[?]", ":@{a}@{b}[?]",
                     ":@{a}[1]@{b}", ":@{a}@{b}", ":@{a}[1@{b}[?]", ":@{a}1]@{b}[?]", ":@{a}[]@{b}[?]", ":@{a} [1]@{b}[?]",
                     ":@{a}[01]@{b}[?]", ":@{a}[1 ]@{b}[?]", ":@{a[1]}@{b}[?]", ":@{a}(1)@{b}[?]", ":[1]@{a}[?]@{b}",
                     ":@{b}[?]@{a}[1]", ":@{a}[[1]]@{b}[?]", ":@{a}[1]@{b[?]}", ":@{a}[1]@{b}[?"):
            self.assert_not_woven(*changed(lines, 1, line))

    def test_used_and_uses(self):
        lines = ["#1 chunk a", ":@{b}[2]@{c}[?]", "-used in 2", "-uses 2, ?", "#2 chunk b", ":@{a}[1]", "-used in 1",
                 "-uses 1", "=a: 1; used in 2", "=b: 2; used in 1", "=c: nowhere; used in 1"]
        self.assertEqual(run(unweave(*lines)), [[2]])
        for line in ("-used in 1", "-used in 1, 2", "-used in ?", "-used in ", "-used in 2 ", "-used in 2,", "-used  in 2",
                     "-used in 02", "-uses 2", "used in 2", "-"):
            self.assert_not_woven(*changed(lines, 2, line))
        for line in ("-uses ?, 2", "-uses 2", "-uses 2,?", "-uses 2, 0", "-uses ?", "-uses 2, ?, ?", "-uses 1, ?", "-uses"):
            self.assert_not_woven(*changed(lines, 3, line))
        self.assert_not_woven(*lines[:2], lines[3], lines[2], *lines[4:])
        self.assert_not_woven(*lines[:1], lines[2], lines[1], *lines[3:])

    def test_used_in_of_files(self):
        self.assert_not_woven("#1 file a", ":@{a}[?]", "-used in 1", "-uses ?", "=a: nowhere; used in 1", "=file a: 1")
        self.assertEqual(run(unweave("#1 file a", ":@{a}[?]", "-uses ?", "=a: nowhere; used in 1", "=file a: 1")), [[1]])

    def test_index(self):
        blocks = [" |a|", "#1 file f", ":@if s", ":@fi", ":@{b}[?]@{a}[?]", "-uses ?"]
        lines = ["=a: nowhere; used in 1; told of in 1", "=b: nowhere; used in 1", "=file f: 1", "=if s: 1"]
        self.assertEqual(run(unweave(*blocks, *lines)), [[2]])
        for order in ((1, 0, 2, 3), (0, 1, 3, 2), (2, 0, 1, 3), (0, 2, 1, 3), (1, 2, 3), (0, 2, 3), (0, 1, 3), (0, 1, 2),
                      (), (0, 0, 1, 2, 3), (0, 1, 2, 3, 3), (3, 2, 1, 0)):
            self.assert_not_woven(*blocks, *[lines[k] for k in order])
        for line in ("=a: nowhere; told of in 1; used in 1", "=a: nowhere; used in 1", "=a: ?; used in 1; told of in 1",
                     "=a: nowhere; used in 1; told of in 2", "=a:nowhere; used in 1; told of in 1", "=a: nowhere",
                     "=a: nowhere;used in 1; told of in 1", "a: nowhere; used in 1; told of in 1", "=aa: nowhere",
                     "=a: nowhere; used in 1, 1; told of in 1", "=a: nowhere; used in 1; told of in 1;"):
            self.assert_not_woven(*blocks, line, *lines[1:])
        self.assert_not_woven(*blocks, *lines, "=zz: nowhere")
        self.assert_not_woven(*blocks, *lines, "=if t: 1")


class LimitTest(Case):
    def test_too_many_blocks(self):
        self.assertEqual(run(unweave(*[" a"] * 200)), [[200]])
        self.assert_not_woven(*[" a"] * 201)

    def test_too_many_parts(self):
        self.assertEqual(run(unweave(*woven(*["@file a", "@end"] * 60))), [[60]])
        row = ", ".join(str(k) for k in range(1, 62))
        lines = ["#1 file a > 2"] + [f"#{k} file a < {k - 1} > {k + 1}" for k in range(2, 61)] + ["#61 file a < 60"]
        self.assert_not_woven(*lines, "=file a: " + row)

    def test_too_many_lines(self):
        self.assertEqual(run(unweave("#1 file a", *[":"] * 400, "=file a: 1")), [[1]])
        self.assert_not_woven("#1 file a", *[":"] * 401, "=file a: 1")

    def test_too_long_lines(self):
        self.assertEqual(run(unweave(" " + "a" * 200, "#1 file a", ":" + "a" * 200, "=file a: 1")), [[2]])
        self.assert_not_woven(" " + "a" * 201)
        self.assert_not_woven("#1 file a", ":" + "a" * 201, "=file a: 1")
        for count, answer in ((50, 1), (51, -1)):
            lines = ["#1 chunk a", ":" + "@{a}[1]" * count, "-used in 1", "-uses 1", "=a: 1; used in 1"]
            self.assertEqual(run(unweave(*lines)), [[answer]])

    def test_bytes_of_the_document(self):
        for last, answer in ((199, 100), (200, -6)):
            lines = [" " + line for line in WIDE_PROSE + ["p" * last]]
            self.assertEqual(len(text(*WIDE_PROSE, "p" * last)), 19801 + last)
            self.assertEqual(run(unweave(*lines)), [[answer]])

    def test_bytes_of_the_document_with_parts(self):
        # All bytes of the document's text count, those of its ends too.
        for last, answer in ((186, 100), (187, -6)):
            lines = [" " + line for line in WIDE_PROSE] + ["#1 file a", ":" + "x" * last, "=file a: 1"]
            self.assertEqual(len(text(*WIDE_PROSE, "@file a", "x" * last, "@end")), 19814 + last)
            self.assertEqual(run(unweave(*lines)), [[answer]])

    def test_not_woven_before_too_long(self):
        lines = [" " + "p" * 200] * 110
        self.assertEqual(run(unweave(*lines)), [[-6]])
        self.assert_not_woven(*lines, "x")
        self.assert_not_woven(*lines, "=a: 1")
        self.assert_not_woven(*lines[:-1], " " + "p" * 201)
        self.assertEqual(run(unweave_bytes(text(*lines)[:-1])), [[-1]])

    def test_long_texts(self):
        for row in ([10] * 24000, [32] * 24000, [32, 10] * 12000, [35] * 24000, [58] * 24000, [58, 10] * 12000,
                    coded(":" + "@{a}" * 5999), coded(":" + "@{a}" * 5999 + "]\n"), coded(":" + "@{a}[" * 4799 + "]\n"),
                    coded("#1 chunk a\n:" + "@{a}[1]" * 3400 + "\n"), coded("#1 chunk a\n:" + "@{" * 11000 + "\n"),
                    coded("#1 chunk a\n:" + "@<" * 11000 + ">\n"), coded("#" * 100 + "<>" * 5000 + "\n") * 2,
                    [255] * 24000, coded("=a: 1\n") * 4000):
            self.assertEqual(run(unweave_bytes(row)), [[-1]])


class RefusedTest(Case):
    def test_what_was_held_stays(self):
        too_long = unweave(*[" " + "p" * 200] * 110)
        calls = [weave(), size(), chunk("sum"), file("out"), quotes(0)]
        found = run(read(*EXAMPLE), *calls, unweave(*WOVEN[:-1]), *calls, too_long, *calls, unweave("x"), *calls)
        self.assertEqual([found[6], found[12], found[18]], [[-1], [-6], [-1]])
        for start in (7, 13, 19):
            self.assertEqual(found[start:start + 5], found[1:6])

    def test_new_object(self):
        self.assertEqual(run(unweave("x"), weave(), size()), [[-1], [0], [0] * 5])

    def test_next_one_is_held(self):
        self.assertEqual(run(unweave(" a"), unweave("x"), unweave(" b", " c"), weave()),
                         [[1], [-1], [2], [6, 32, 98, 10, 32, 99, 10]])
