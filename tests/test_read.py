"""read: faults by line and reason, limits, and what a fault leaves."""

from tests.helper import Case, EXAMPLE, coded, read, read_bytes, run, size, text, weave


def deep_ifs(count):
    return ["@if s"] * count + ["@fi"] * count


class PlainLineTest(Case):
    def test_empty_text(self):
        self.assertEqual(run(read_bytes([]), size()), [[0, 0], [0, 0, 0, 0, 0]])

    def test_empty_line_is_prose(self):
        self.assert_blocks(1, "")
        self.assert_blocks(3, "", "", "")

    def test_line_not_ended(self):
        self.assertEqual(run(read_bytes(coded("a"))), [[1, 1]])
        self.assertEqual(run(read_bytes(coded("a\nb\nc"))), [[3, 1]])
        self.assertEqual(run(read_bytes(coded("@chunk a\n@end"))), [[2, 1]])
        self.assertEqual(run(read_bytes(coded("\n "))), [[2, 1]])

    def test_bytes_that_are_no_signs(self):
        for byte in list(range(10)) + list(range(11, 32)) + list(range(127, 256)):
            self.assertEqual(run(read_bytes([97, byte, 10])), [[1, 1]])
            self.assertEqual(run(read_bytes(coded("@chunk a\n") + [byte, 10] + coded("@end\n"))), [[2, 1]])

    def test_all_signs_in_prose(self):
        self.assertEqual(run(read_bytes(coded("a") + list(range(32, 127)) + [10])), [[0, 1]])

    def test_line_length(self):
        self.assert_blocks(1, "x" * 200)
        self.assert_fault(1, 1, "x" * 201)
        self.assert_part_line("x" * 200)
        self.assert_fault(2, 1, "@chunk a", "x" * 201, "@end")

    def test_reason_1_before_others(self):
        self.assert_fault(1, 1, "@" + "x" * 200)
        self.assert_fault(2, 1, "@chunk a", "@x\t", "@end")


class OutsideTest(Case):
    def test_prose_that_begins_with_two_ats(self):
        self.assert_blocks(2, "@@", "@@chunk a")

    def test_at_that_is_no_header(self):
        for line in ("@", "@end", "@if s", "@else", "@fi", "@{a}", "@<n>", "@ a", "@chunk", "@file", "@Chunk a"):
            self.assert_fault(2, 2, "ok", line)

    def test_at_later_in_prose(self):
        self.assert_blocks(2, " @chunk a", "a@b@{")


class WithinTest(Case):
    def test_header_within_a_part(self):
        self.assert_fault(2, 3, "@chunk a", "@chunk b", "@end")
        self.assert_fault(2, 3, "@chunk a", "@file b", "@end")

    def test_end_must_be_exact(self):
        for line in ("@end ", "@ends", "@END", "@en"):
            self.assert_fault(2, 3, "@chunk a", line, "@end")
        self.assert_fault(3, 8, "@chunk a", " x")
        self.assert_fault(3, 8, "@chunk a", "@@end")

    def test_end_missing(self):
        self.assert_fault(2, 8, "@chunk a")
        self.assert_fault(5, 8, "x", "@chunk a", "b", "")
        self.assert_fault(3, 8, "@file a", "@if s")

    def test_second_part_without_end(self):
        self.assert_fault(4, 8, "@chunk a", "@end", "@chunk a")


class ConditionTest(Case):
    def test_paired(self):
        self.assert_blocks(1, "@chunk a", "@if s", "x", "@else", "y", "@fi", "@end")
        self.assert_blocks(1, "@chunk a", "@if s", "@if t", "@else", "@fi", "@else", "@fi", "@end")
        self.assert_blocks(1, "@file a", "@if s", "@fi", "@if s", "@else", "@fi", "@end")
        self.assert_blocks(1, "@chunk a", "@if s", "@else", "@if t", "@else", "@fi", "@fi", "@end")

    def test_end_while_a_condition_waits(self):
        self.assert_fault(3, 4, "@chunk a", "@if s", "@end")
        self.assert_fault(4, 4, "@chunk a", "@if s", "@else", "@end")

    def test_else_and_end_of_if_without_if(self):
        self.assert_fault(2, 4, "@chunk a", "@else", "@end")
        self.assert_fault(2, 4, "@chunk a", "@fi", "@end")
        self.assert_fault(4, 4, "@chunk a", "@if s", "@fi", "@fi", "@end")
        self.assert_fault(4, 4, "@chunk a", "@if s", "@fi", "@else", "@end")

    def test_second_else(self):
        self.assert_fault(4, 4, "@chunk a", "@if s", "@else", "@else", "@fi", "@end")
        self.assert_fault(6, 4, "@chunk a", "@if s", "@else", "@if t", "@fi", "@else", "@fi", "@end")

    def test_depth(self):
        self.assert_blocks(1, "@chunk a", *deep_ifs(6), "@end")
        self.assert_fault(8, 4, "@chunk a", *deep_ifs(7), "@end")
        self.assert_blocks(1, "@chunk a", *deep_ifs(6), *deep_ifs(6), "@end")

    def test_conditions_do_not_reach_over_parts(self):
        self.assert_fault(6, 4, "@chunk a", "@if s", "@fi", "@end", "@chunk b", "@fi", "@end")


class ParameterTest(Case):
    def test_told(self):
        self.assert_blocks(1, "@chunk a(n, m)", "@<n>@<m>@<n>", "@end")

    def test_not_told(self):
        self.assert_fault(2, 5, "@chunk a(n)", "@<m>", "@end")
        self.assert_fault(2, 5, "@chunk a(n)", "@<n>@<nn>", "@end")
        self.assert_fault(2, 5, "@chunk a", "@<n>", "@end")
        self.assert_fault(2, 5, "@file a", "@<n>", "@end")

    def test_other_parts_do_not_tell(self):
        self.assert_fault(4, 5, "@chunk a(n)", "@end", "@chunk b(m)", "@<n>", "@end")

    def test_reason_3_before_5(self):
        self.assert_fault(2, 3, "@chunk a(n)", "@<m>@", "@end")


class SameParametersTest(Case):
    def test_same(self):
        self.assert_blocks(2, "@chunk a(n, m)", "@end", "@chunk a(n, m)", "@end")

    def test_other(self):
        for header in ("@chunk a", "@chunk a(n)", "@chunk a(m, n)", "@chunk a(n, m, o)", "@chunk a(n, k)"):
            self.assert_fault(4, 7, "@chunk a(n, m)", "@end", "x", header, "@end")
        self.assert_fault(3, 7, "@chunk a", "@end", "@chunk a(n)", "@end")

    def test_files_uses_and_other_names_do_not_count(self):
        self.assert_blocks(2, "@file a", "@end", "@chunk a(n)", "@end")
        self.assert_blocks(2, "@chunk a(n)", "@end", "@file a", "@end")
        self.assert_blocks(2, "@chunk b", "@{a(1, 2)}", "@end", "@chunk a(n)", "@end")


class LimitTest(Case):
    def test_blocks(self):
        self.assert_blocks(200, *["x"] * 200)
        self.assert_fault(201, 6, *["x"] * 201)
        self.assert_blocks(200, *["x"] * 199, "@chunk a", "@end")
        self.assert_fault(201, 6, *["x"] * 200, "@chunk a", "@end")
        self.assert_fault(202, 6, *["x"] * 199, "@chunk a", "@end", "")

    def test_parts(self):
        parts = ["@chunk a", "@end"] * 60
        self.assert_blocks(60, *parts)
        self.assert_blocks(61, *parts, "x")
        self.assert_fault(121, 6, *parts, "@chunk a", "@end")
        self.assert_fault(121, 6, *parts, "@file a", "@end")

    def test_lines(self):
        self.assert_blocks(1, "@chunk a", *["x"] * 400, "@end")
        self.assert_fault(402, 6, "@chunk a", *["x"] * 401, "@end")
        both = ["@chunk a"] + ["x"] * 250 + ["@end", "", "@file a"] + ["@if s", "@fi"] * 75
        self.assert_blocks(3, *both, "@end")
        self.assert_fault(len(both) + 1, 6, *both, "", "@end")
        self.assert_fault(len(both) + 1, 6, *both, "@if s", "@fi", "@end")

    def test_earlier_reasons_come_first_at_the_limits(self):
        self.assert_fault(201, 1, *["x"] * 200, "\t")
        self.assert_fault(201, 2, *["x"] * 200, "@no")
        full = ["@chunk a"] + ["x"] * 400
        self.assert_fault(402, 3, *full, "@no")
        self.assert_fault(402, 4, *full, "@fi")
        self.assert_fault(402, 5, *full, "@<n>")
        self.assert_fault(402, 6, *full, "x")

    def test_reason_6_before_7(self):
        self.assert_fault(121, 6, *["@chunk a", "@end"] * 60, "@chunk a(n)", "@end")

    def test_bytes(self):
        lines = ["x" * 199] * 99 + ["y" * 199]
        self.assertEqual(len(text(*lines)), 20000)
        self.assert_blocks(100, *lines)
        self.assertEqual(run(read(*lines, "")), [[-6]])
        self.assertEqual(run(read_bytes([0] * 20001)), [[-6]])
        self.assertEqual(run(read_bytes([0] * 20000)), [[1, 1]])
        self.assertEqual(run(read_bytes([10] * 24000)), [[-6]])


class FirstFaultTest(Case):
    def test_first_line_counts(self):
        self.assert_fault(2, 3, "@chunk a", "@x", "@fi", "x" * 300)
        self.assert_fault(1, 2, "@x", "@chunk a")

    def test_one_line_for_each_reason(self):
        start = ["@chunk a(n)", "@if s"]
        self.assert_fault(3, 1, *start, "\x7f", "@end")
        self.assert_fault(1, 2, "@chunk", *start)
        self.assert_fault(3, 3, *start, "@", "@end")
        self.assert_fault(3, 4, *start, "@end")
        self.assert_fault(3, 5, *start, "@<m>", "@fi", "@end")
        self.assert_fault(201, 6, *[""] * 200, *start)
        self.assert_fault(5, 7, *start, "@fi", "@end", "@chunk a", "@end")
        self.assert_fault(4, 8, *start, "@fi")


class UnchangedTest(Case):
    def test_fault_changes_nothing(self):
        found = run(read(*EXAMPLE), weave(), read("new", "@x"), weave(), size())
        self.assertEqual(found[2], [2, 2])
        self.assertEqual(found[3], found[1])
        self.assertEqual(found[4], [5, 4, 16, 5, 351])

    def test_refusal_changes_nothing(self):
        found = run(read(*EXAMPLE), weave(), read_bytes([10] * 20001), weave())
        self.assertEqual(found[2], [-6])
        self.assertEqual(found[3], found[1])

    def test_later_read_replaces_all(self):
        found = run(read(*EXAMPLE), read("x"), weave(), read_bytes([]), weave())
        self.assertEqual(found[1:], [[0, 1], [3, 32, 120, 10], [0, 0], [0]])
