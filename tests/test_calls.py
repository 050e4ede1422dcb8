"""Lists of calls: what is given back, what stays as it was, and large inputs."""

from tests.helper import Case, EXAMPLE, block, chunk, file, index, number, part, quotes, read, read_bytes, row_call, run
from tests.helper import setting, size, unweave, unweave_bytes, weave, woven
from wovendocs.weaving import UnknownCall, answers

EVERY_CALL = (read(*EXAMPLE) + weave() + block(1) + number(0) + number(1) + part(1) + chunk("sum") + file("out")
              + setting("fast") + quotes(0) + index(2) + unweave(*woven(*EXAMPLE)) + size())
EVERY_REFUSAL = (read("@x") + read_bytes([10] * 20001) + block(-1) + number(99) + part(0) + chunk("") + file("")
                 + setting("") + quotes(9) + quotes(1) + index(-1) + unweave("x"))


class ListTest(Case):
    def test_refused_calls_in_between(self):
        found = run(number(0), read("a"), block(1), read("@"), chunk("a"), part(1), number(0), read_bytes([10] * 20001),
                    weave(), size())
        self.assertEqual(found, [
            [-2], [0, 1], [-2], [1, 2], [-3], [-2], [0], [-6], [3, 32, 97, 10], [1, 0, 1, 0, 3]])

    def test_refused_calls_among_all_others(self):
        found = run(index(0), unweave("=a: 1"), unweave(*woven("|f|", "@file f", "@if s", "@fi", "@end")), file("s"),
                    file("f"), setting("f"), setting("s"), quotes(1), quotes(0), quotes(2), index(2), index(1), read("@"),
                    unweave(" a", ""), size())
        self.assertEqual(found, [
            [-2], [-1], [2], [-3], [1, 1], [-3], [1, 1], [-4], [1, 1, 102], [-2], [-2],
            [8, 61, 105, 102, 32, 115, 58, 32, 49], [1, 2], [-1], [2, 1, 4, 2, 47]])

    def test_every_call_after_every_refusal(self):
        calls = EVERY_CALL[len(read(*EXAMPLE)):]
        first = answers(read(*EXAMPLE) + calls)
        given = answers(read(*EXAMPLE) + EVERY_REFUSAL + calls)
        refused = answers(read(*EXAMPLE) + EVERY_REFUSAL)
        self.assertEqual(given, refused + first[3:])

    def test_numbers_that_are_given_back(self):
        self.assertEqual(answers([1]), [1, 0])
        self.assertEqual(answers([11]), [5, 0, 0, 0, 0, 0])
        self.assertEqual(answers([0, 0, 2, 0, 1]), [2, 0, 0, 1, -2, 1, 0])
        self.assertEqual(answers([0, 2, 97, 10, 1, 3, 0, 5, 0]), [2, 0, 1, 4, 3, 32, 97, 10, 1, 0, 1, -3])
        self.assertEqual(answers([10, 0, 6, 0, 7, 0, 8, 0, 9, 0]), [1, 0, 1, -3, 1, -3, 1, -2, 1, -2])
        self.assertEqual(answers([10, 4, 32, 124, 124, 10, 8, 0, 10, 1, 32, 11]),
                         [1, 1, 1, 0, 1, -1, 5, 1, 0, 1, 0, 4])

    def test_rows_that_look_like_calls(self):
        self.assertEqual(run(read_bytes([1, 11, 0, 10]), read_bytes([11, 1]), size()), [[1, 1], [1, 1], [0] * 5])
        self.assertEqual(run(row_call(6, [1, 1]), row_call(7, [11]), unweave_bytes([8, 0, 1]), size()),
                         [[-3], [-3], [-1], [0] * 5])

    def test_only_plain_whole_numbers(self):
        given = answers(EVERY_CALL + EVERY_REFUSAL)
        self.assertIs(type(given), list)
        self.assertEqual({type(one) for one in given}, {int})

    def test_numbers_that_are_no_calls(self):
        for calls in ([12], [-1], [11, 12]):
            self.assertRaises(UnknownCall, answers, calls)

    def test_forty_calls(self):
        found = run(read(*EXAMPLE), *[weave()] * 38, size())
        self.assertEqual(len(found), 40)
        self.assertEqual(found[1], found[38])


class KeptTest(Case):
    def test_list_stays_as_it_was(self):
        calls = EVERY_CALL + EVERY_REFUSAL
        before = list(calls)
        answers(calls)
        self.assertEqual(calls, before)

    def test_nothing_is_kept(self):
        calls = EVERY_CALL + EVERY_REFUSAL
        first = answers(calls)
        self.assertEqual(answers([11]), [5, 0, 0, 0, 0, 0])
        self.assertEqual(answers([9, 0]), [1, -2])
        self.assertEqual(answers(calls), first)

    def test_given_list_is_new(self):
        calls = EVERY_CALL
        first = answers(calls)
        copy = list(first)
        first.clear()
        self.assertEqual(answers(calls), copy)


class LargeTest(Case):
    def test_many_names(self):
        names = [f"{k:03}" for k in range(1000)]
        lines = ["".join("@{" + name + "}" for name in names[k:k + 33]) for k in range(0, 1000, 33)]
        found = run(read("@file f", *lines, "@end"), size(), weave(), block(0), chunk("999"))
        self.assertEqual(found[1][:4], [1, 1, len(lines) + 2, 1001])
        self.assertEqual(found[2], [-7])
        self.assertEqual(found[3][0], len(found[3]) - 1)
        self.assertEqual(found[4], [0, 1, 1, 0])

    def test_many_lines(self):
        self.assertEqual(run(read_bytes([10] * 20000)), [[201, 6]])
        self.assertEqual(run(read_bytes([64] * 20000)), [[1, 1]])

    def test_line_of_bars(self):
        self.assertEqual(run(read("|" * 200), size())[1], [1, 0, 1, 0, 202])
