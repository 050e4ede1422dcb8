"""file: the parts of a path."""

from tests.helper import Case, file, read, row_call, run, unweave, woven

LINES = ("@file b/x.c", "@end", "@chunk b", "@end", "@file a", "@end", "@file b/x.c", "@if s", "@fi", "@{use}", "@end",
         "|told|", "@file b/x.c", "@end")


def ask(*calls):
    return run(read(*LINES), *calls)[1:]


class FileTest(Case):
    def test_new_object(self):
        self.assertEqual(run(file("a"), file("")), [[-3], [-3]])

    def test_parts(self):
        self.assertEqual(ask(file("b/x.c"), file("a")), [[3, 1, 4, 5], [1, 3]])

    def test_no_file(self):
        for path in ("b", "s", "use", "told", "x.c", "b/x", "b/x.c ", "B/x.c", "@file a", "a\n", ""):
            self.assertEqual(ask(file(path)), [[-3]], path)

    def test_bytes_that_are_no_signs(self):
        self.assertEqual(ask(row_call(6, [0]), row_call(6, [255, 97]), row_call(6, [97])), [[-3], [-3], [1, 3]])

    def test_many_bytes(self):
        self.assertEqual(ask(file("a" * 41), file("a" * 24000)), [[-3], [-3]])

    def test_longest_path(self):
        path = "a-_./Z09" * 5
        self.assertEqual(run(read("@file " + path, "@end"), file(path), file(path[:-1])), [[0, 1], [1, 1], [-3]])

    def test_path_that_is_a_name_too(self):
        self.assertEqual(run(read("@chunk a", "@end", "@file a", "@end"), file("a")), [[0, 2], [1, 2]])

    def test_another_document(self):
        found = run(read(*LINES), read("@file c", "@end"), file("a"), file("c"), read("@"), file("c"))
        self.assertEqual(found[2:], [[-3], [1, 1], [1, 2], [1, 1]])

    def test_after_unweave(self):
        found = run(unweave(*woven(*LINES)), file("b/x.c"), file("b"))
        self.assertEqual(found, [[6], [3, 1, 4, 5], [-3]])
