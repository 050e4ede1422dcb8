"""weave: blocks and index as lines, and the text's limit."""

from tests.helper import Case, block, lines_of, read, run, size, text, weave, woven


class BlockLinesTest(Case):
    def test_new_object(self):
        self.assertEqual(run(weave()), [[0]])

    def test_prose(self):
        self.assertEqual(woven("a", "", "@@x", " b", "=a"), [" a", " ", " @@x", "  b", " =a"])

    def test_part_without_lines(self):
        self.assertEqual(woven("@chunk a", "@end"), ["#1 chunk a", "=a: 1"])

    def test_lines_as_they_stand(self):
        found = woven("@chunk a(n)", "", "x@@ @<n>", "@if s", "@else", "@fi", "@end")
        self.assertEqual(found[:6], ["#1 chunk a(n)", ":", ":x@@ @<n>", ":@if s", ":@else", ":@fi"])

    def test_name_used_and_never_told(self):
        found = woven("@chunk a", "x@{b}y", "@end")
        self.assertEqual(found, ["#1 chunk a", ":x@{b}[?]y", "-uses ?", "=a: 1", "=b: nowhere; used in 1"])

    def test_names_without_parts_are_one_number(self):
        found = woven("@chunk a", "@{b}@{c}@{a}@{d()}", "@end")
        self.assertEqual(found[1:4], [":@{b}[?]@{c}[?]@{a}[1]@{d()}[?]", "-used in 1", "-uses ?, 1"])

    def test_name_used_twice_in_a_part(self):
        found = woven("@file f", "@{a}", "@{a(1)}@{b}@{a}", "@end", "@chunk b", "@end", "@chunk a", "@end")
        self.assertEqual(found[:4], ["#1 file f", ":@{a}[3]", ":@{a(1)}[3]@{b}[2]@{a}[3]", "-uses 3, 2"])
        self.assertIn("=a: 3; used in 1", found)

    def test_several_parts_of_a_name(self):
        found = woven("@chunk a", "@end", "@chunk b", "@{a}", "@end", "@chunk a", "@end", "@chunk a", "@{a}", "@end")
        self.assertEqual(found, [
            "#1 chunk a > 3", "-used in 2, 4",
            "#2 chunk b", ":@{a}[1]", "-uses 1",
            "#3 chunk a < 1 > 4", "-used in 2, 4",
            "#4 chunk a < 3", ":@{a}[1]", "-used in 2, 4", "-uses 1",
            "=a: 1, 3, 4; used in 2, 4", "=b: 2"])

    def test_several_parts_of_a_file(self):
        found = woven("@file a", "@end", "@chunk a", "@{b}", "@end", "@file a", "@end", "@file b", "@end", "@file a", "@end")
        self.assertEqual(found, [
            "#1 file a > 3", "#2 chunk a", ":@{b}[?]", "-uses ?", "#3 file a < 1 > 5", "#4 file b", "#5 file a < 3",
            "=a: 2", "=b: nowhere; used in 2", "=file a: 1, 3, 5", "=file b: 4"])

    def test_file_is_not_used_by_its_path(self):
        found = woven("@file a", "@{a}", "@end")
        self.assertEqual(found, ["#1 file a", ":@{a}[?]", "-uses ?", "=a: nowhere; used in 1", "=file a: 1"])

    def test_use_behind_doubled_at(self):
        self.assertEqual(woven("@chunk a", "@@{a}@@@{a}", "@end")[1], ":@@{a}@@@{a}[1]")

    def test_numbers_of_two_digits(self):
        lines = ["@chunk a", "@end"] * 9 + ["@chunk b", "@{b}", "@end", "@chunk b", "@end"]
        found = woven(*lines)
        self.assertIn("#10 chunk b > 11", found)
        self.assertIn(":@{b}[10]", found)
        self.assertIn("#11 chunk b < 10", found)


class IndexTest(Case):
    def test_order_of_texts(self):
        names = ["b", "a b", "ab", "a", "a-b", "a0", "0", "-", "aa"]
        found = woven(*[line for name in names for line in ("@chunk " + name, "@end")])
        self.assertEqual([line.partition(":")[0] for line in found if line.startswith("=")],
                         ["=-", "=0", "=a", "=a b", "=a-b", "=a0", "=aa", "=ab", "=b"])

    def test_order_of_files_and_settings(self):
        paths = ["b", "a/b", "a.b", "a", "A", "_", "-", "a_b", "0"]
        lines = [line for path in paths for line in ("@file " + path, "@end")]
        settings = ["b", "ab", "a1", "a"]
        lines += ["@chunk x"] + [line for one in settings for line in ("@if " + one, "@fi")] + ["@end"]
        found = [line.partition(":")[0] for line in woven(*lines) if line.startswith("=")]
        self.assertEqual(found, ["=x"] + ["=file " + path for path in ("-", "0", "A", "_", "a", "a.b", "a/b", "a_b", "b")]
                         + ["=if " + one for one in ("a", "a1", "ab", "b")])

    def test_setting_asked_in_several_parts(self):
        condition = ["@if s", "@if s", "@fi", "@fi", "@if s", "@fi"]
        found = woven("@chunk a", *condition, "@end", "@chunk b", "@end", "@file f", *condition, "@end")
        self.assertEqual(found[-1], "=if s: 1, 3")

    def test_prose_that_tells_of_a_name(self):
        found = woven("|a|", "a", "|a| and |a|", "@chunk a", "@end", "x|b|a|", "|b|x|a|", "@file f", "@{b}", "@end")
        self.assertEqual(found[-3:], ["=a: 1; told of in 1, 3, 5",
                                      "=b: nowhere; used in 2; told of in 4, 5", "=file f: 2"])

    def test_quotes_that_tell_of_no_name(self):
        for line in ("|a", "a|", "||a|", "||a||", "| a|", "|a |", "|A|", "|aa|", "|a.|", "x|y|a|", "a"):
            self.assertEqual(woven(line, "@chunk a", "@end")[-1], "=a: 1", line)

    def test_bar_without_partner(self):
        for line in ("|a||", "|a|x|", "|x|y|a|", "|||a|", "||x|a|"):
            self.assertEqual(woven(line, "@chunk a", "@end")[-1], "=a: 1; told of in 1", line)

    def test_quoted_name_of_words(self):
        self.assertEqual(woven("see |main loop|", "@chunk main loop", "@end")[-1], "=main loop: 1; told of in 1")

    def test_prose_alone_makes_no_name(self):
        self.assertEqual(woven("|a|"), [" |a|"])

    def test_bars_in_code_tell_nothing(self):
        self.assertEqual(woven("@chunk a", "|a|", "@end")[-1], "=a: 1")


class ShortTest(Case):
    def lines(self, last):
        """Each line has 49 uses of 4 bytes, which are woven with 3 bytes more each."""
        return ["@chunk b"] + ["@{a}" * 49] * 69 + ["x" * last, "@end"]

    def woven_bytes(self, last):
        return len("#1 chunk b\n") + 69 * (1 + 7 * 49 + 1) + (last + 2) + len("-uses ?\n")

    def index_bytes(self):
        return len("=a: nowhere; used in 1\n=b: 1\n")

    def test_weave_at_the_limit(self):
        last = 24000 - self.woven_bytes(0) - self.index_bytes()
        found = run(read(*self.lines(last)), weave(), size(), read(*self.lines(last + 1)), weave(), size(), block(0))
        self.assertEqual(found[1][0], 24000)
        self.assertEqual(len(lines_of(found[1])), 74)
        self.assertEqual(found[2], [1, 1, 72, 2, 24000])
        self.assertEqual(found[4], [-7])
        self.assertEqual(found[5], [1, 1, 72, 2, 24001])
        self.assertEqual(found[6][0], 24001 - self.index_bytes())

    def test_block_at_the_limit(self):
        last = 24000 - self.woven_bytes(0)
        found = run(read(*self.lines(last)), block(0), weave(), read(*self.lines(last + 1)), block(0), size())
        self.assertEqual(found[1][0], 24000)
        self.assertEqual(len(found[1]), 24001)
        self.assertEqual(found[2], [-7])
        self.assertEqual(found[4], [-7])
        self.assertEqual(found[5], [1, 1, 72, 2, 24001 + self.index_bytes()])

    def test_text_that_was_too_long_is_held(self):
        last = 24000 - self.woven_bytes(0)
        found = run(read(*self.lines(last)), weave(), block(0))
        self.assertEqual(found[0], [0, 1])
        self.assertEqual(found[1], [-7])
        self.assertEqual(found[2][1:12], text("#1 chunk b"))
