"""Calls 13, 16 and 17: a file's history, files that would be others without some issues, and files by a field."""

import itertools
import unittest

from tests.support import (FILES, ISSUES, all_questions, as_numbers, file, history, issue, last, lose, run, search,
                           take, taken, without)

LEAST = -9223372036854775808
GREATEST = 9223372036854775807


class History(unittest.TestCase):
    def assert_history(self, told, *issues_lines):
        """Of file 1."""
        self.assertEqual(last(*taken(*issues_lines), history(1)), [0] + told, issues_lines)

    def test_none(self):
        self.assert_history([])
        self.assert_history([], ["new 2", "new 11", "new 10 10 1", "set 2 10 1"])

    def test_new_set_and_drop(self):
        self.assert_history([1, 1, 1, 3, 2, 1], ["new 1", "new 2", "set 1 10 a"], ["drop 1"])

    def test_lines_that_change_nothing_are_about_it_too(self):
        self.assert_history([1, 1, 1, 2, 1, 3], ["set 1 10 a", "drop 1", "drop 1"])

    def test_struck_lines_are_left_out(self):
        self.assert_history([1, 2], ["new 1", "new 1"], ["void 1 1"])
        self.assert_history([1, 1], ["new 1"], ["void 1 1"], ["void 2 1"])

    def test_a_line_that_is_about_another_file_in_the_end(self):
        self.assert_history([1, 2], ["new 1", "new 2"], ["fix 1 1 with new 2", "fix 1 2 with drop 1"])
        self.assert_history([1, 1], ["new 1"], ["fix 1 1 with new 2"], ["void 2 1"])

    def test_corrections_are_no_lines_about_it(self):
        self.assert_history([1, 1], ["new 1"], ["fix 1 1 with set 1 10 a"], ["fix 2 1 with new 1"])
        self.assert_history([], None, ["fix 1 1 with new 1"])

    def test_places_in_order_however_they_came(self):
        parts = {2: ["drop 2", "new 1"], 9: ["set 1 10 a", "set 1 10 b"], 10: ["drop 1"], 11: ["void 9 1"]}
        for numbers in itertools.permutations(parts):
            calls = [take(issue(number, 5, *parts[number])) for number in (*numbers, *numbers[:3])]
            told = run(*calls, history(1), lose(11), history(1), lose(2), history(1), lose(10), lose(9), history(1))
            self.assertEqual(told[len(calls)::2][:3], [[0, 2, 2, 9, 2, 10, 1], [0, 2, 2, 9, 1, 9, 2, 10, 1],
                                                       [0, 9, 1, 9, 2, 10, 1]])
            self.assertEqual(told[-1], [0])

    def test_edges(self):
        calls = taken(["new 999", "new 1"])
        self.assertEqual(run(*calls, history(999), history(1), history(2))[1:], [[0, 1, 1], [0, 1, 2], [0]])

    def test_out_of_range(self):
        for number in (0, 1000, -1, LEAST, GREATEST):
            self.assertEqual(last(history(number)), [-3])
            self.assertEqual(last(*taken(["new 1"]), history(number)), [-3])


class Without(unittest.TestCase):
    CALLS = taken(["new 1 10 a", "new 2"], ["set 1 10 b", "new 3"], None, ["void 2 1", "new 2", "drop 3"], [])

    def assert_without(self, files, *numbers):
        self.assertEqual(last(*self.CALLS, without(*numbers)), [len(files)] + files, numbers)

    def test_no_issues(self):
        self.assertEqual(last(without()), [0])
        self.assert_without([])

    def test_one(self):
        self.assert_without([1], 1)
        self.assert_without([], 2)
        self.assert_without([1, 3], 4)
        self.assert_without([], 5)

    def test_several(self):
        self.assert_without([1, 2, 3], 1, 4)
        self.assert_without([], 2, 4)
        self.assert_without([1, 2], 1, 2, 4, 5)

    def test_in_any_order_and_more_than_once(self):
        for numbers in itertools.permutations([1, 4, 5, 1]):
            self.assert_without([1, 2, 3], *numbers)
        self.assert_without([1], *[1] * 24)

    def test_files_rising(self):
        calls = taken(["new 30", "new 4", "new 999", "new 1", "new 100"])
        self.assertEqual(last(*calls, without(1)), [5, 1, 4, 30, 100, 999])

    def test_another_value_another_field_or_not_there(self):
        first = ["new 1 10 a", "new 2 10 a", "new 3 10 a", "new 4 10 a", "new 5 10 a"]
        calls = taken(first, ["set 1 10 b", "set 2 11 a", "drop 3", "new 4 10 a", "set 5 10 a", "new 6"])
        self.assertEqual(last(*calls, without(2)), [4, 1, 2, 3, 6])

    def test_fields_set_in_another_order_are_the_same_record(self):
        calls = taken(["new 1", "set 1 11 b"], ["set 1 10 a"], ["set 1 11 b"], ["set 1 10 a"])
        self.assertEqual(run(*calls, without(2), without(4), without(2, 4), without(3))[4:], [[0], [0], [1, 1], [0]])

    def test_a_correction_in_a_later_issue(self):
        calls = taken(["new 1", "new 2"], ["void 1 1"], ["void 2 1", "fix 1 2 with drop 2"])
        self.assertEqual(run(*calls, without(2), without(3), without(2, 3))[3:], [[0], [2, 1, 2], [1, 2]])

    def test_it_is_as_if_they_were_lost(self):
        for count in range(1, 5):
            for numbers in itertools.combinations([1, 2, 4, 5], count):
                told = run(*self.CALLS, *[file(number) for number in range(1, 5)], without(*numbers),
                           *[lose(number) for number in numbers], *[file(number) for number in range(1, 5)])[4:]
                changed = [number for number, before, after in zip(range(1, 5), told, told[-4:]) if before != after]
                self.assertEqual(told[4], [len(changed)] + changed, numbers)

    def test_they_stay_known(self):
        self.assertEqual(run(*self.CALLS, without(1, 2, 4), ISSUES, FILES)[5:], [[0, 1, 2, 4, 5], [0, 1, 2]])

    def test_all_24(self):
        calls = [take(issue(number, 5, f"new {number}")) for number in range(1, 25)]
        self.assertEqual(last(*calls, without(*range(1, 25))), [24] + list(range(1, 25)))
        self.assertEqual(last(*calls, without(*range(24, 1, -1))), [23] + list(range(2, 25)))

    def test_one_that_is_not_known(self):
        for number in (3, 6, 0, -1, 100, 256, LEAST, GREATEST):
            for numbers in ((number,), (1, number), (number, 1), (1, 2, number, 4)):
                self.assertEqual(last(*self.CALLS, without(*numbers)), [-4])
        self.assertEqual(last(without(1)), [-4])
        self.assertEqual(last(*self.CALLS, lose(2), without(2)), [-4])

    def test_more_than_24(self):
        self.assertEqual(last(*self.CALLS, without(*[1] * 25)), [-4])
        self.assertEqual(last(*self.CALLS, without(*[1] * 2000)), [-4])
        self.assertEqual(last(*self.CALLS, without(*[77] * 25)), [-4])
        calls = [take(issue(number, 5, f"new {number}")) for number in range(1, 25)]
        self.assertEqual(last(*calls, without(*range(1, 26))), [-4])
        self.assertEqual(last(*calls, without(*range(1, 25), 1)), [-4])


class Search(unittest.TestCase):
    CALLS = taken(["new 30 10 ab 11 c", "new 4 10 ab", "new 999 11 ab", "new 1 10 abc", "new 5 10 a", "new 6"])

    def assert_search(self, files, code, bytes_of_value):
        self.assertEqual(last(*self.CALLS, search(code, bytes_of_value)), [0] + files)

    def test_none_known(self):
        self.assertEqual(last(search(10, "a")), [0])

    def test_just_these_bytes(self):
        self.assert_search([4, 30], 10, "ab")
        self.assert_search([1], 10, "abc")
        self.assert_search([5], 10, "a")
        self.assert_search([999], 11, "ab")
        self.assert_search([30], 11, "c")
        self.assert_search([], 10, "b")
        self.assert_search([], 12, "ab")
        self.assert_search([], 99, "ab")

    def test_bytes_that_are_no_value(self):
        for text in ("", "AB", "a b", "ab\n", "abcdefghijklm", [0], [255], [97] * 2000):
            self.assert_search([], 10, text)

    def test_fields_as_they_are_in_the_end(self):
        calls = taken(["new 1 10 a", "new 2 10 a", "new 3 10 b", "new 4 10 b"],
                      ["set 1 10 b", "drop 2", "set 3 10 a", "fix 1 4 with new 4 10 a", "set 5 10 a"])
        self.assertEqual(run(*calls, search(10, "a"), search(10, "b"), lose(2), search(10, "a"), search(10, "b"))[2:],
                         [[0, 3, 4], [0, 1], [1], [0, 1, 2], [0, 3, 4]])

    def test_however_they_came(self):
        parts = {1: ["new 1 10 a", "new 2 10 b"], 2: ["set 1 10 b"], 3: ["void 2 1", "set 2 10 c"]}
        for numbers in itertools.permutations(parts):
            calls = [take(issue(number, 5, *parts[number])) for number in (*numbers, *numbers)]
            told = run(*calls, search(10, "a"), search(10, "b"), search(10, "c"), lose(3), search(10, "b"))[6:]
            self.assertEqual(told, [[0, 1], [0], [0, 2], [2], [0, 1, 2]])

    def test_the_edges_of_codes(self):
        calls = taken(["new 7 10 x 99 abcdefghijkl"])
        self.assertEqual(run(*calls, search(10, "x"), search(99, "abcdefghijkl"))[1:], [[0, 7], [0, 7]])

    def test_out_of_range(self):
        for code in (9, 100, 0, -10, LEAST, GREATEST):
            self.assertEqual(last(*self.CALLS, search(code, "ab")), [-3])
            self.assertEqual(last(*self.CALLS, search(code, "")), [-3])

    def test_no_byte(self):
        for number in (-1, 256, LEAST, GREATEST):
            for text in ([number], [97, number], [number, 97, 98], [97] * 20 + [number]):
                self.assertEqual(last(*self.CALLS, search(10, text)), [-1])

    def test_out_of_range_comes_first(self):
        self.assertEqual(last(*self.CALLS, search(9, [256])), [-3])
        self.assertEqual(last(*self.CALLS, search(100, [-1])), [-3])

    def test_the_place_of_a_value_among_calls(self):
        calls = [*self.CALLS, search(10, as_numbers("ab")), FILES, search(11, ""), ISSUES]
        self.assertEqual(run(*calls)[1:], [[0, 4, 30], [0, 1, 4, 5, 6, 30, 999], [0], [0, 1]])


class RefusalsChangeNothing(unittest.TestCase):
    def test_each(self):
        calls = Without.CALLS
        questions = all_questions(files=range(1, 4), numbers=range(0, 6))
        before = run(*calls, *questions)[4:]
        refused = [history(0), history(1000), without(3), without(1, 3), without(*[1] * 25), search(9, "a"),
                   search(10, [256])]
        told = run(*calls, *refused, *questions)[4:]
        self.assertEqual(told[:7], [[-3], [-3], [-4], [-4], [-4], [-3], [-1]])
        self.assertEqual(told[7:], before)


if __name__ == "__main__":
    unittest.main()
