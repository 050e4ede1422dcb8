"""Calls written as words, and answers taken apart."""

import unittest

from wovendocs.weaving import answers

EXAMPLE = (
    "See |sum| and |x.",
    "@chunk main loop(n)",
    "@{sum}@{print(a)} @@",
    "@end",
    "@file out",
    "@if fast",
    "  @{main loop(3)}",
    "@fi",
    "@end",
    "@chunk main loop(n)",
    "@{sum}",
    "@end",
    "@chunk sum",
    "@end",
)


def coded(words):
    return list(words.encode("latin-1"))


def text(*lines):
    """The bytes of the lines, each ended."""
    return coded("".join(line + "\n" for line in lines))


def row_call(number, row):
    return [number, len(row)] + row


def read_bytes(row):
    return row_call(0, row)


def read(*lines):
    return read_bytes(text(*lines))


def weave():
    return [1]


def block(i):
    return [2, i]


def number(i):
    return [3, i]


def part(k):
    return [4, k]


def chunk(name):
    return row_call(5, coded(name))


def file(path):
    return row_call(6, coded(path))


def setting(name):
    return row_call(7, coded(name))


def quotes(i):
    return [8, i]


def index(k):
    return [9, k]


def unweave_bytes(row):
    return row_call(10, row)


def unweave(*lines):
    return unweave_bytes(text(*lines))


def size():
    return [11]


def taken_apart(given):
    """The answers of the calls, one list each."""
    found = []
    at = 0
    while at < len(given):
        end = at + 1 + given[at]
        found.append(given[at + 1:end])
        at = end
    return found


def run(*calls):
    return taken_apart(answers([one for call in calls for one in call]))


def lines_of(answer):
    """The lines of a text that was answered."""
    if answer[0] != len(answer) - 1:
        raise AssertionError(f"no counted text: {answer}")
    words = bytes(answer[1:]).decode("ascii")
    if words and not words.endswith("\n"):
        raise AssertionError(f"last line not ended: {words}")
    return words.split("\n")[:-1]


def words_of(answer):
    """A text that was answered, which is one line without its end."""
    if answer[0] != len(answer) - 1:
        raise AssertionError(f"no counted text: {answer}")
    return bytes(answer[1:]).decode("ascii")


def texts_of(answer):
    """The texts that were answered."""
    found = []
    at = 1
    while at < len(answer):
        end = at + 1 + answer[at]
        found.append(words_of(answer[at:end]))
        at = end
    if answer[0] != len(found):
        raise AssertionError(f"not so many texts: {answer}")
    return found


def woven(*lines):
    """The lines that a document with these lines is woven into."""
    return lines_of(run(read(*lines), weave())[1])


def index_of(*lines):
    """The lines of the index of a document with these lines, each asked for by its number."""
    count = run(read(*lines), size())[1][3]
    found = run(read(*lines), *[index(k) for k in range(count)])
    return [words_of(answer) for answer in found[1:]]


class Case(unittest.TestCase):
    def assert_blocks(self, count, *lines):
        self.assertEqual(run(read(*lines)), [[0, count]])

    def assert_fault(self, line, reason, *lines):
        self.assertEqual(run(read(*lines)), [[line, reason]])

    def assert_part_line(self, line):
        """The line may stand in a part with the parameters n and m2."""
        self.assert_blocks(1, "@chunk a(n, m2)", line, "@end")

    def assert_no_part_line(self, line):
        self.assert_fault(2, 3, "@chunk a(n, m2)", line, "@end")

    def assert_unweaves(self, *lines):
        """The document with these lines is held again, once its woven text is unwoven on a new object."""
        first = run(read(*lines), weave(), size())
        again = run(unweave_bytes(first[1][1:]), weave(), size())
        self.assertEqual(again, [[first[0][1]], first[1], first[2]])

    def assert_not_woven(self, *lines):
        self.assertEqual(run(unweave(*lines)), [[-1]], lines)

    def assert_header(self, line):
        self.assert_blocks(1, line, "@end")

    def assert_no_header(self, line):
        self.assert_fault(1, 2, line, "@end")
