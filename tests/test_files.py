"""Calls 4 to 9: what the known issues make of the files."""

import unittest

from tests.support import (FILES, NO_RECORD, as_numbers, behind, file, issue, last, record, run, sure, take, taken,
                           then, value)

WRONG_FILES = (0, 1000, -1, -9223372036854775808, 9223372036854775807)
WRONG_CODES = (9, 100, 0, -10, -9223372036854775808, 9223372036854775807)
WRONG_NUMBERS = (-1, 100, -9223372036854775808, 9223372036854775807)


class Lines(unittest.TestCase):
    def assert_record(self, lines, told, number=1):
        self.assertEqual(last(*taken(lines), file(number)), told, lines)

    def test_a_file_that_is_not_there(self):
        self.assertEqual(last(file(1)), NO_RECORD)
        self.assert_record(["new 2 10 a"], NO_RECORD)

    def test_new(self):
        self.assert_record(["new 1"], [1, 0])
        self.assert_record(["new 1 10 abc 99 d"], [1, 2, 10, 3, 97, 98, 99, 99, 1, 100])

    def test_new_of_a_file_that_is_there_has_just_its_fields(self):
        self.assert_record(["new 1 10 a 11 b", "new 1 12 c"], record(c12="c"))
        self.assert_record(["new 1 10 a 11 b", "new 1"], [1, 0])

    def test_set(self):
        self.assert_record(["new 1 10 a", "set 1 10 bb"], record(c10="bb"))
        self.assert_record(["set 1 10 a"], NO_RECORD)
        self.assert_record(["set 1 10 a", "new 1"], [1, 0])
        self.assert_record(["new 2", "set 1 10 a"], NO_RECORD)

    def test_fields_by_rising_codes_however_they_were_set(self):
        self.assert_record(["new 1 50 m", "set 1 99 z", "set 1 10 a", "set 1 30 f"],
                           record(c10="a", c30="f", c50="m", c99="z"))

    def test_drop(self):
        self.assert_record(["new 1 10 a", "drop 1"], NO_RECORD)
        self.assert_record(["drop 1"], NO_RECORD)
        self.assert_record(["new 1 10 a", "drop 2"], record(c10="a"))
        self.assert_record(["new 1 10 a", "drop 1", "set 1 10 b"], NO_RECORD)
        self.assert_record(["new 1 10 a", "drop 1", "new 1 11 b"], record(c11="b"))

    def test_a_set_leaves_what_new_told_as_it_was_for_the_next_time(self):
        calls = taken(["new 1 10 a"], ["set 1 10 b"])
        told = run(*calls, file(1), behind(1, 1), file(1), then(1, 1))[2:]
        self.assertEqual(told, [record(c10="b"), record(c10="a"), record(c10="b"), record(c10="a")])

    def test_lines_work_by_place_not_by_arrival(self):
        calls = [take(issue(2, 5, "set 1 10 b")), take(issue(1, 5, "new 1 10 a")), take(issue(3, 5, "set 1 10 c"))]
        self.assertEqual(last(*calls, file(1)), record(c10="c"))

    def test_the_greatest_file(self):
        self.assert_record(["new 999 99 abcdefghijkl"], record(c99="abcdefghijkl"), number=999)


class Corrections(unittest.TestCase):
    def assert_value(self, told, *issues_lines):
        answer = [-8] if told is None else [0] + as_numbers(told)
        self.assertEqual(last(*taken(*issues_lines), value(1, 10)), answer, issues_lines)

    def test_a_fix(self):
        self.assert_value("b", ["new 1 10 a"], ["fix 1 1 with new 1 10 b"])
        self.assert_value("b", ["new 1 10 a", "fix 1 1 with new 1 10 b"])

    def test_a_fix_works_at_the_place_of_the_line(self):
        self.assert_value("c", ["new 1 10 a", "set 1 10 c"], ["fix 1 1 with new 1 10 b"])
        self.assert_value(None, ["new 1 10 a"], ["new 1 11 c"], ["fix 1 1 with set 1 10 b"])

    def test_a_fix_may_tell_of_another_file(self):
        calls = taken(["new 1 10 a"], ["fix 1 1 with new 2 11 b"])
        self.assertEqual(run(*calls, FILES, file(1), file(2))[2:], [[0, 2], NO_RECORD, record(c11="b")])

    def test_a_fix_may_tell_another_verb(self):
        self.assert_value(None, ["new 1 10 a", "set 1 10 b"], ["fix 1 2 with drop 1"])
        self.assert_value("b", ["new 1 10 a", "drop 1"], ["fix 1 2 with set 1 10 b"])

    def test_a_void(self):
        self.assert_value("a", ["new 1 10 a", "drop 1"], ["void 1 2"])
        self.assert_value(None, ["new 1 10 a"], ["void 1 1"])
        self.assert_value("a", ["new 1 10 a", "drop 1", "void 1 2"])

    def test_a_fix_struck_by_a_void(self):
        self.assert_value("a", ["new 1 10 a"], ["fix 1 1 with new 1 10 b"], ["void 2 1"])

    def test_a_void_struck_by_a_void(self):
        self.assert_value("a", ["new 1 10 a"], ["void 1 1"], ["void 2 1"])

    def test_a_chain_of_voids(self):
        lines = ["new 1 10 a"]
        for length in range(1, 12):
            lines.append(f"void 1 {length}")
            self.assert_value(None if length % 2 == 1 else "a", lines)

    def test_a_void_that_is_struck_strikes_no_correction(self):
        self.assert_value("b", ["new 1 10 a"], ["fix 1 1 with new 1 10 b"], ["void 2 1"], ["void 3 1"])

    def test_the_last_correction_that_stands_decides(self):
        first = ["new 1 10 a"]
        fix_b = "fix 1 1 with new 1 10 b"
        fix_c = "fix 1 1 with new 1 10 c"
        self.assert_value("c", first, [fix_b], [fix_c])
        self.assert_value("b", first, [fix_c], [fix_b])
        self.assert_value("c", first, [fix_b, fix_c])
        self.assert_value(None, first, [fix_b], ["void 1 1"])
        self.assert_value("b", first, ["void 1 1"], [fix_b])
        self.assert_value("b", first, [fix_b], [fix_c], ["void 3 1"])
        self.assert_value("c", first, [fix_b], [fix_c], ["void 2 1"])
        self.assert_value("a", first, [fix_b], [fix_c], ["void 2 1", "void 3 1"])
        self.assert_value("b", first, [fix_b], ["void 1 1"], ["void 3 1"])
        self.assert_value(None, first, ["void 1 1"], [fix_b], ["void 3 1"])

    def test_the_last_by_place_not_by_arrival(self):
        calls = [take(issue(3, 5, "fix 1 1 with new 1 10 c")), take(issue(1, 5, "new 1 10 a")),
                 take(issue(2, 5, "fix 1 1 with new 1 10 b"))]
        self.assertEqual(last(*calls, value(1, 10)), [0, ord("c")])

    def test_a_fix_that_aims_at_a_correction_does_nothing(self):
        self.assert_value("b", ["new 1 10 a"], ["fix 1 1 with new 1 10 b"], ["fix 2 1 with new 1 10 c"])
        self.assert_value(None, ["new 1 10 a"], ["void 1 1"], ["fix 2 1 with new 1 10 c"])

    def test_a_later_fix_does_not_undo_that_a_void_strikes_a_correction(self):
        self.assert_value("a", ["new 1 10 a"], ["fix 1 1 with new 1 10 b"], ["void 2 1"],
                          ["fix 2 1 with new 1 10 c"])

    def test_two_voids_of_one_correction(self):
        fix = ["fix 1 1 with new 1 10 b"]
        self.assert_value("a", ["new 1 10 a"], fix, ["void 2 1", "void 2 1"], ["void 3 2"])
        self.assert_value("a", ["new 1 10 a"], fix, ["void 2 1", "void 2 1"], ["void 3 1"])
        self.assert_value("b", ["new 1 10 a"], fix, ["void 2 1", "void 2 1"], ["void 3 1", "void 3 2"])

    def test_a_line_that_is_not_known(self):
        self.assert_value("a", ["new 1 10 a"], None, ["fix 2 1 with set 1 10 b", "void 2 2"])
        self.assert_value("a", ["new 1 10 a"], ["fix 1 2 with set 1 10 b", "void 1 40"])

    def test_it_takes_hold_when_the_line_becomes_known(self):
        late = take(issue(2, 5, "set 1 10 b"))
        calls = [take(issue(1, 5, "new 1 10 a")), take(issue(3, 5, "fix 2 1 with set 1 10 c"))]
        self.assertEqual(run(*calls, value(1, 10), late, value(1, 10))[2::2], [[0, ord("a")], [0, ord("c")]])

    def test_a_correction_is_no_line_that_works_itself(self):
        self.assert_value(None, ["drop 2"], ["fix 1 1 with new 1 10 a"], ["drop 1"], ["void 1 1"])
        self.assertEqual(last(*taken(["drop 1"], ["new 1"], ["fix 1 1 with drop 1"]), file(1)), [1, 0])


class ValueCall(unittest.TestCase):
    def test_the_bytes_of_a_value(self):
        calls = taken(["new 1 10 az09 11 b"])
        self.assertEqual(run(*calls, value(1, 10), value(1, 11))[1:], [[0] + list(b"az09"), [0, 98]])

    def test_no_file_or_no_field(self):
        calls = taken(["new 1 10 a", "new 2", "drop 3"])
        told = run(*calls, value(1, 11), value(1, 99), value(2, 10), value(3, 10), value(999, 10))
        self.assertEqual(told[1:], [[-8]] * 5)

    def test_out_of_range_comes_first(self):
        calls = taken(["new 1 10 a"])
        for number in WRONG_FILES:
            self.assertEqual(last(*calls, value(number, 10)), [-3])
        for code in WRONG_CODES:
            self.assertEqual(last(*calls, value(1, code)), [-3])
            self.assertEqual(last(*calls, value(2, code)), [-3])


class FilesCall(unittest.TestCase):
    def test_none(self):
        self.assertEqual(last(FILES), [0])

    def test_rising(self):
        self.assertEqual(last(*taken(["new 30", "new 4", "new 999", "new 1", "set 7 10 a"]), FILES),
                         [0, 1, 4, 30, 999])

    def test_dropped_ones_are_left_out(self):
        self.assertEqual(last(*taken(["new 3", "new 4", "drop 3"]), FILES), [0, 4])


class Ranges(unittest.TestCase):
    def test_files(self):
        for number in WRONG_FILES:
            told = run(file(number), sure(number), behind(number, 1), then(number, 1), behind(number, 100))
            self.assertEqual(told, [[-3]] * 5)

    def test_numbers(self):
        for number in WRONG_NUMBERS:
            self.assertEqual(run(behind(1, number), then(1, number)), [[-3], [-3]])

    def test_edges(self):
        calls = taken(["new 1 10 a 99 b", "new 999"])
        told = run(*calls, file(1), file(999), behind(1, 0), then(999, 0), behind(999, 99), then(999, 99),
                   value(1, 99), sure(999))[1:]
        self.assertEqual(told, [record(c10="a", c99="b"), [1, 0], [0], [0], [1, 0], [1, 0], [0, 98], [1]])


class BehindAndThen(unittest.TestCase):
    def test_without_corrections_both_tell_the_same(self):
        calls = taken(["new 1 10 a"], ["set 1 10 b"], None, ["drop 1"])
        for n, told in enumerate([NO_RECORD, record(c10="a"), record(c10="b"), record(c10="b"), NO_RECORD, NO_RECORD]):
            self.assertEqual(run(*calls, behind(1, n), then(1, n))[3:], [told, told])

    def test_a_later_issue_corrects_an_earlier_one(self):
        calls = taken(["new 1 10 a"], ["set 1 11 x"], ["fix 1 1 with new 1 10 b"])
        told = run(*calls, behind(1, 1), then(1, 1), behind(1, 2), then(1, 2), behind(1, 3), then(1, 3))[3:]
        self.assertEqual(told, [record(c10="b"), record(c10="a"), record(c10="b", c11="x"), record(c10="a", c11="x"),
                                record(c10="b", c11="x"), record(c10="b", c11="x")])

    def test_a_later_issue_strikes_an_earlier_line(self):
        calls = taken(["new 1 10 a"], ["void 1 1"])
        self.assertEqual(run(*calls, behind(1, 1), then(1, 1), then(1, 2))[2:], [NO_RECORD, record(c10="a"), NO_RECORD])

    def test_a_later_issue_strikes_a_correction(self):
        calls = taken(["new 1 10 a"], ["void 1 1"], ["void 2 1"])
        told = run(*calls, behind(1, 1), then(1, 1), behind(1, 2), then(1, 2), then(1, 3))[3:]
        self.assertEqual(told, [record(c10="a")] * 3 + [NO_RECORD, record(c10="a")])

    def test_numbers_that_are_gaps_or_behind_the_greatest(self):
        calls = [take(issue(3, 5, "new 1 10 a"))]
        told = run(*calls, behind(1, 2), then(1, 2), behind(1, 3), then(1, 3), behind(1, 50), then(1, 50))[1:]
        self.assertEqual(told, [NO_RECORD] * 2 + [record(c10="a")] * 4)


class Sure(unittest.TestCase):
    def assert_sure(self, told, calls, number=1):
        self.assertEqual(last(*calls, sure(number)), [told])

    def test_without_gaps_every_file_is_sure(self):
        self.assert_sure(1, [])
        self.assert_sure(1, taken(["new 1"]))
        self.assert_sure(1, taken(["new 1"], ["drop 1"]), number=999)

    def test_a_gap_before(self):
        self.assert_sure(1, taken(None, ["new 1"]))
        self.assert_sure(1, taken(None, ["drop 1"]))
        self.assert_sure(0, taken(None, ["set 1 10 a"]))
        self.assert_sure(0, taken(None, ["new 2"]))
        self.assert_sure(0, taken(None, []))

    def test_a_gap_among(self):
        self.assert_sure(0, taken(["new 1"], None, ["set 1 10 a"]))
        self.assert_sure(1, taken(["new 1"], None, ["drop 1"]))
        self.assert_sure(1, taken(["new 1"], None, [], ["new 1"]))

    def test_the_last_gap_counts(self):
        self.assert_sure(0, taken(None, ["new 1"], None, ["new 2"]))
        self.assert_sure(1, taken(None, ["new 2"], None, ["new 1"]))

    def test_nothing_is_a_gap_behind_the_greatest(self):
        self.assert_sure(1, taken(["new 1"], ["set 1 10 a"]))

    def test_a_gap_behind_the_line(self):
        calls = taken(["new 1"], ["new 1"])
        self.assertEqual(run(*calls, sure(1), take(issue(4, 90)), sure(1))[2::2], [[1], [0]])

    def test_what_the_line_says_in_the_end_counts(self):
        self.assert_sure(0, taken(None, ["new 1", "void 2 1"]))
        self.assert_sure(0, taken(None, ["new 1"], ["void 2 1"]))
        self.assert_sure(1, taken(None, ["new 1"], ["void 2 1"], ["void 3 1"]))
        self.assert_sure(0, taken(None, ["new 1"], ["fix 2 1 with new 2"]))
        self.assert_sure(1, taken(None, ["new 2"], ["fix 2 1 with drop 1"]))
        self.assert_sure(0, taken(None, ["new 1"], ["fix 2 1 with set 1 10 a"]))
        self.assert_sure(1, taken(None, ["set 1 10 a"], ["fix 2 1 with new 1"]))

    def test_a_correction_stands_for_the_place_of_its_line(self):
        self.assert_sure(0, taken(["set 1 10 a"], None, ["fix 1 1 with new 1"]))
        self.assert_sure(0, taken(None, ["fix 1 1 with new 1"]))


if __name__ == "__main__":
    unittest.main()
