"""index: its lines, by their numbers."""

from tests.helper import Case, EXAMPLE, index, index_of, lines_of, read, run, size, weave, words_of


class IndexTest(Case):
    def test_new_object(self):
        self.assertEqual(run(index(-1), index(0), index(1)), [[-2]] * 3)

    def test_edges(self):
        found = run(read(*EXAMPLE), *[index(k) for k in (-40000, -1, 5, 40000, 4, 0)])[1:]
        self.assertEqual(found[:4], [[-2]] * 4)
        self.assertEqual(words_of(found[4]), "=if fast: 2")
        self.assertEqual(words_of(found[5]), "=main loop: 1, 3; used in 2")

    def test_without_names_files_and_settings(self):
        self.assertEqual(run(read("a", "|b|", ""), index(0), index(-1)), [[0, 3], [-2], [-2]])

    def test_bytes_that_are_answered(self):
        self.assertEqual(run(read("@chunk a", "@end"), index(0)), [[0, 1], [5, 61, 97, 58, 32, 49]])

    def test_one_begins_another(self):
        lines = []
        for name in ("a b", "ab", "a-", "a", "a0", "aa", "a a", "0", "-"):
            lines += ["@chunk " + name, "@end"]
        found = [line.split(":")[0] for line in index_of(*lines)]
        self.assertEqual(found, ["=-", "=0", "=a", "=a a", "=a b", "=a-", "=a0", "=aa", "=ab"])

    def test_order_of_paths(self):
        lines = []
        for path in ("b", "_", "a/b", "a", "B", "a.b", "a-b", "10", "9", "aB", "ab"):
            lines += ["@file " + path, "@end"]
        found = [line[len("=file "):].split(":")[0] for line in index_of(*lines)]
        self.assertEqual(found, ["10", "9", "B", "_", "a", "a-b", "a.b", "a/b", "aB", "ab", "b"])

    def test_order_of_settings(self):
        lines = ["@file f"]
        for setting in ("b", "a1", "a", "aa", "a10", "a2"):
            lines += ["@if " + setting, "@fi"]
        found = [line.split(":")[0] for line in index_of(*lines, "@end")[1:]]
        self.assertEqual(found, ["=if a", "=if a1", "=if a10", "=if a2", "=if aa", "=if b"])

    def test_names_before_files_before_settings(self):
        found = index_of("@file a", "@if a", "@fi", "@{z}", "@end", "@chunk y", "@end")
        self.assertEqual(found, ["=y: 2", "=z: nowhere; used in 1", "=file a: 1", "=if a: 1"])

    def test_names_that_look_like_files_and_settings(self):
        found = index_of("@chunk if a", "@end", "@chunk file a", "@end", "@file a", "@if a", "@fi", "@end")
        self.assertEqual(found, ["=file a: 2", "=if a: 1", "=file a: 3", "=if a: 3"])

    def test_rows(self):
        lines = ("|a||b|", "@chunk a", "@{a}@{b}", "@{a}", "@end", "@file f", "@if s", "@{a}", "@fi", "@if s", "@fi",
                 "@end", "|a||a|", "|c| a", "@chunk a", "@if s", "@fi", "@end", "@file f", "@end")
        self.assertEqual(index_of(*lines), [
            "=a: 1, 3; used in 1, 2; told of in 1, 2", "=b: nowhere; used in 1; told of in 1", "=file f: 2, 4",
            "=if s: 2, 3"])

    def test_lines_are_those_of_weave(self):
        found = run(read(*EXAMPLE), weave(), size())
        self.assertEqual(lines_of(found[1])[found[2][2]:], index_of(*EXAMPLE))

    def test_after_a_fault(self):
        found = run(read("@chunk a", "@end"), read("@chunk b", "@end", "@"), index(0), index(1))
        self.assertEqual(found[1:], [[3, 2], [5, 61, 97, 58, 32, 49], [-2]])
