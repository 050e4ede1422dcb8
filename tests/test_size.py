"""size: five numbers."""

from tests.helper import Case, EXAMPLE, read, read_bytes, run, size, text, unweave, weave, woven


class SizeTest(Case):
    def test_new_object(self):
        self.assertEqual(run(size()), [[0, 0, 0, 0, 0]])

    def test_example(self):
        self.assertEqual(run(read(*EXAMPLE), size())[1], [5, 4, 16, 5, 351])

    def test_prose_alone(self):
        self.assertEqual(run(read("a", ""), size())[1], [2, 0, 2, 0, 5])

    def test_part_alone(self):
        self.assertEqual(run(read("@chunk a", "@end"), size())[1], [1, 1, 1, 1, len(text("#1 chunk a", "=a: 1"))])

    def test_bytes_are_those_of_weave(self):
        found = run(read(*EXAMPLE), weave(), size())
        self.assertEqual(found[2][4], found[1][0])

    def test_after_a_fault(self):
        found = run(read("@x"), size(), read(*EXAMPLE), read("@chunk a"), size(), read_bytes([10] * 20001), size())
        self.assertEqual(found, [[1, 2], [0] * 5, [0, 5], [2, 8], [5, 4, 16, 5, 351], [-6], [5, 4, 16, 5, 351]])

    def test_after_unweave(self):
        found = run(unweave(*woven(*EXAMPLE)), size(), unweave(" a"), size())
        self.assertEqual(found, [[5], [5, 4, 16, 5, 351], [1], [1, 0, 1, 0, 3]])

    def test_after_a_refused_unweave(self):
        too_long = [" " + "p" * 200] * 110
        found = run(unweave("a"), size(), unweave(" a"), unweave(" a", "a"), size(), unweave(*too_long), size())
        self.assertEqual(found, [[-1], [0] * 5, [1], [-1], [1, 0, 1, 0, 3], [-6], [1, 0, 1, 0, 3]])
