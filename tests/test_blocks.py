"""block, number and part."""

from tests.helper import Case, block, coded, lines_of, number, part, read, run, text

LINES = (
    "one", "@chunk a", "@{b}@{a}", "@{c}@{b}", "@end", "two", "@file a", "@end",
    "@chunk b", "@end", "@file a", "@{a}", "@end", "@chunk a", "@end", "@file a", "@end", "",
)
# Blocks: 0 prose, 1 part 1, 2 prose, 3 part 2, 4 part 3, 5 part 4, 6 part 5, 7 part 6, 8 prose.


def ask(*calls):
    return run(read(*LINES), *calls)[1:]


class BlockTest(Case):
    def test_edges(self):
        found = ask(block(-1), block(0), block(8), block(9), block(-40000), block(40000))
        self.assertEqual(found, [[-2], [5] + text(" one"), [2] + text(" "), [-2], [-2], [-2]])

    def test_no_blocks(self):
        self.assertEqual(run(block(0), block(-1)), [[-2], [-2]])

    def test_woven_lines_of_a_part(self):
        found = [lines_of(answer) for answer in ask(block(1), block(3), block(4), block(5))]
        self.assertEqual(found, [
            ["#1 chunk a > 5", ":@{b}[3]@{a}[1]", ":@{c}[?]@{b}[3]", "-used in 1, 4", "-uses 3, 1, ?"],
            ["#2 file a > 4"],
            ["#3 chunk b", "-used in 1"],
            ["#4 file a < 2 > 6", ":@{a}[1]", "-uses 1"]])


class NumberTest(Case):
    def test_all(self):
        found = ask(*[number(i) for i in range(9)])
        self.assertEqual(found, [[0], [1], [0], [2], [3], [4], [5], [6], [0]])

    def test_edges(self):
        self.assertEqual(ask(number(-1), number(9), number(-40000), number(40000)), [[-2]] * 4)
        self.assertEqual(run(number(0), number(-1)), [[-2], [-2]])
        self.assertEqual(run(read("@chunk a", "@end"), number(0), number(1)), [[0, 1], [1], [-2]])


class PartTest(Case):
    def test_all(self):
        found = ask(*[part(k) for k in range(1, 7)])
        self.assertEqual(found, [
            [1, 0, 5, 3, 3, 1, 0], [3, 0, 4, 0], [4, 0, 0, 0], [5, 2, 6, 1, 1], [6, 1, 0, 0], [7, 4, 0, 0]])

    def test_edges(self):
        self.assertEqual(ask(part(0), part(7), part(-1), part(-40000), part(40000)), [[-2]] * 5)
        self.assertEqual(run(part(0), part(1)), [[-2], [-2]])
        self.assertEqual(run(read("prose"), part(0), part(1)), [[0, 1], [-2], [-2]])

    def test_names_without_parts_give_one_0(self):
        found = run(read("@file f", "@{x}@{y}@{z}", "@end"), part(1))
        self.assertEqual(found[1], [0, 0, 0, 1, 0])

    def test_order_of_first_coming(self):
        found = run(read("@chunk a", "@end", "@chunk b", "@{c}@{b}", "@{a}@{c}@{d}", "@end", "@chunk c", "@end"), part(2))
        self.assertEqual(found[1], [1, 0, 0, 4, 3, 2, 1, 0])


class BytesTest(Case):
    def test_text_is_counted(self):
        self.assertEqual(run(read("a"), block(0))[1], [3] + coded(" a\n"))
