"""The document's own example, call by call."""

from tests.helper import Case, EXAMPLE, block, chunk, file, index, lines_of, number, part, quotes, read, run, setting
from tests.helper import size, text, texts_of, unweave, weave, words_of
from wovendocs.weaving import answers

WOVEN_BLOCKS = [
    [" See |sum| and |x."],
    ["#1 chunk main loop(n) > 3", ":@{sum}[4]@{print(a)}[?] @@", "-used in 2", "-uses 4, ?"],
    ["#2 file out", ":@if fast", ":  @{main loop(3)}[1]", ":@fi", "-uses 1"],
    ["#3 chunk main loop(n) < 1", ":@{sum}[4]", "-used in 2", "-uses 4"],
    ["#4 chunk sum", "-used in 1, 3"],
]
INDEX = [
    "=main loop: 1, 3; used in 2",
    "=print: nowhere; used in 1",
    "=sum: 4; used in 1, 3; told of in 1",
    "=file out: 2",
    "=if fast: 2",
]
ALL_LINES = [line for lines in WOVEN_BLOCKS for line in lines] + INDEX


def ask(*calls):
    return run(read(*EXAMPLE), *calls)[1:]


class ExampleTest(Case):
    def test_read(self):
        self.assertEqual(run(read(*EXAMPLE)), [[0, 5]])

    def test_weave(self):
        self.assertEqual(lines_of(ask(weave())[0]), ALL_LINES)

    def test_blocks(self):
        found = [lines_of(answer) for answer in ask(*[block(i) for i in range(5)])]
        self.assertEqual(found, WOVEN_BLOCKS)

    def test_numbers(self):
        self.assertEqual(ask(*[number(i) for i in range(5)]), [[0], [1], [2], [3], [4]])

    def test_parts(self):
        found = ask(*[part(k) for k in range(1, 5)])
        self.assertEqual(found, [[1, 0, 3, 2, 4, 0], [2, 0, 0, 1, 1], [3, 1, 0, 1, 4], [4, 0, 0, 0]])

    def test_chunks(self):
        found = ask(chunk("sum"), chunk("main loop"), chunk("print"), chunk("out"), chunk("fast"), chunk("x"))
        self.assertEqual(found, [[1, 4, 2, 1, 3, 1, 1], [2, 1, 3, 1, 2, 0], [0, 1, 1, 0], [-3], [-3], [-3]])

    def test_file(self):
        self.assertEqual(ask(file("out"), file("sum"), file("fast"), file("")), [[1, 2], [-3], [-3], [-3]])

    def test_setting(self):
        self.assertEqual(ask(setting("fast"), setting("sum"), setting("out"), setting("")), [[1, 2], [-3], [-3], [-3]])

    def test_quotes(self):
        found = ask(*[quotes(i) for i in range(-1, 6)])
        self.assertEqual(found, [[-2], [1, 3, 115, 117, 109], [-4], [-4], [-4], [-4], [-2]])
        self.assertEqual(texts_of(found[1]), ["sum"])

    def test_index(self):
        found = ask(*[index(k) for k in range(-1, 6)])
        self.assertEqual([words_of(answer) for answer in found[1:6]], INDEX)
        self.assertEqual([found[0], found[6]], [[-2], [-2]])

    def test_unweave(self):
        found = run(unweave(*ALL_LINES), weave(), size())
        self.assertEqual(found[0], [5])
        self.assertEqual(lines_of(found[1]), ALL_LINES)
        self.assertEqual(found[2], [5, 4, 16, 5, 351])

    def test_all_calls_after_unweave(self):
        calls = [block(1), number(3), part(3), chunk("sum"), file("out"), setting("fast"), quotes(0), index(2)]
        self.assertEqual(run(unweave(*ALL_LINES), *calls)[1:], ask(*calls))

    def test_size(self):
        self.assertEqual(ask(size()), [[5, 4, 16, 5, len(text(*ALL_LINES))]])

    def test_list_that_is_given_back(self):
        calls = read(*EXAMPLE) + part(3) + chunk("sum") + number(7) + size()
        expected = [2, 0, 5, 5, 3, 1, 0, 1, 4, 7, 1, 4, 2, 1, 3, 1, 1, 1, -2, 5, 5, 4, 16, 5, 351]
        self.assertEqual(answers(calls), expected)
