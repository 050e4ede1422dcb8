"""chunk: the parts of a name, its users, and the prose that tells of it."""

from tests.helper import Case, chunk, coded, read, row_call, run

LINES = (
    "|only parts| |told| |all|", "@chunk only parts", "@end", "@chunk all", "@{all}@{only-used}", "@{all}", "@end",
    "no quote", "|all|x|all|", "@file out", "@if fast", "@{all(1, 2)}", "@fi", "@end", "@chunk all", "@end", "|all",
)


def ask(*names):
    return run(read(*LINES), *[chunk(name) for name in names])[1:]


class ChunkTest(Case):
    def test_parts_only(self):
        self.assertEqual(ask("only parts"), [[1, 1, 0, 1, 1]])
        self.assertEqual(run(read("@chunk a", "@end"), chunk("a"))[1], [1, 1, 0, 0])

    def test_uses_only(self):
        self.assertEqual(ask("only-used"), [[0, 1, 2, 0]])

    def test_all_three(self):
        self.assertEqual(ask("all"), [[2, 2, 4, 2, 2, 3, 2, 1, 3]])

    def test_names_that_do_not_stand(self):
        self.assertEqual(ask("told", "out", "fast", "", "al", "alll", "ALL", " all", "all(1, 2)", "@{all}"), [[-3]] * 10)

    def test_no_document(self):
        self.assertEqual(run(chunk("a"), chunk("")), [[-3], [-3]])

    def test_rows_that_are_no_names(self):
        found = run(read(*LINES), row_call(5, [0]), row_call(5, [255] * 24000), row_call(5, coded("all\n")))
        self.assertEqual(found[1:], [[-3]] * 3)

    def test_name_that_only_earlier_document_had(self):
        self.assertEqual(run(read("@chunk a", "@end"), read("|a|"), chunk("a"))[2], [-3])

    def test_file_and_name_alike(self):
        found = run(read("@file a", "@{a}", "@end", "@chunk a", "@end"), chunk("a"))
        self.assertEqual(found[1], [1, 2, 1, 1, 0])
