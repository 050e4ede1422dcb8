"""quotes: what a line of prose quotes."""

from tests.helper import Case, quotes, read, run, texts_of


class QuotesTest(Case):
    def assert_quotes(self, line, *expected):
        self.assertEqual(texts_of(run(read(line), quotes(0))[1]), list(expected), line)

    def test_no_block(self):
        self.assertEqual(run(quotes(0), quotes(-1)), [[-2], [-2]])
        found = run(read("a", "b"), *[quotes(i) for i in (-40000, -2, -1, 2, 3, 40000)])
        self.assertEqual(found[1:], [[-2]] * 6)

    def test_part(self):
        found = run(read("|a|", "@chunk a", "|b|", "@end", "@file f", "@end"), *[quotes(i) for i in range(4)])
        self.assertEqual(found[1:], [[1, 1, 97], [-4], [-4], [-2]])

    def test_without_bars(self):
        self.assertEqual(run(read("plain", ""), quotes(0), quotes(1)), [[0, 2], [0], [0]])

    def test_pairs(self):
        self.assert_quotes("|a|", "a")
        self.assert_quotes("x |a| y |b c| z", "a", "b c")
        self.assert_quotes("|a|b|c|", "a", "c")

    def test_last_bar_without_partner(self):
        self.assert_quotes("|")
        self.assert_quotes("|a")
        self.assert_quotes("a|")
        self.assert_quotes("|a|b|c", "a")
        self.assert_quotes("|a|b|", "a")

    def test_empty_pairs(self):
        self.assert_quotes("||")
        self.assert_quotes("|||")
        self.assert_quotes("||||")
        self.assert_quotes("||a|b|", "b")
        self.assert_quotes("|||a|", "a")
        self.assert_quotes("||a||")
        self.assert_quotes("|a|||b|", "a")
        self.assert_quotes("|a||||b|", "a", "b")

    def test_same_twice(self):
        self.assert_quotes("|a| |b| |a|", "a", "b", "a")

    def test_no_names(self):
        self.assert_quotes("| a ||B!|| ||@{x}|", " a ", "B!", " ", "@{x}")
        self.assert_quotes("@@|@chunk a|", "@chunk a")

    def test_longest_quote(self):
        self.assert_quotes("|" + "a" * 198 + "|", "a" * 198)

    def test_most_quotes(self):
        self.assert_quotes("|a" * 100, *["a"] * 50)

    def test_numbers_that_are_answered(self):
        self.assertEqual(run(read("|ab||c|"), quotes(0))[1], [2, 2, 97, 98, 1, 99])
