"""Calls 14, 15 and 18: the text and the day of a known issue, and issues that are lost."""

import itertools
import unittest

from tests.support import (FILES, GAPS, ISSUES, LAST, all_questions, as_numbers, day_of, file, issue, last, line, lose,
                           run, sure, take, taken, text_of, without)

UNKNOWN = (0, -1, 3, 5, 98, 100, -9223372036854775808, 9223372036854775807)
CALLS = taken(["new 1 10 a"], ["set 1 10 b"], None, ["void 2 1", "new 2"])


class Text(unittest.TestCase):
    def test_number_by_number(self):
        self.assertEqual(last(take("gazette 1 of 0\nclose 0 7750"), text_of(1)), [
            0, 103, 97, 122, 101, 116, 116, 101, 32, 49, 32, 111, 102, 32, 48, 10,
            99, 108, 111, 115, 101, 32, 48, 32, 55, 55, 53, 48])

    def test_each_its_own(self):
        texts = {4: issue(4, 7, "new 1 10 a 11 b"), 2: issue(2, 5), 99: issue(99, 100000, "void 4 1", "drop 3")}
        told = run(*[take(text) for text in texts.values()], *[text_of(number) for number in texts])[3:]
        self.assertEqual(told, [[0] + as_numbers(text) for text in texts.values()])

    def test_as_it_was_taken_not_as_it_is_in_the_end(self):
        calls = [*CALLS, take(issue(5, 50, "void 1 1"))]
        self.assertEqual(last(*calls, text_of(1)), [0] + as_numbers(issue(1, 10, "new 1 10 a")))

    def test_not_known(self):
        self.assertEqual(last(text_of(1)), [-5])
        for number in UNKNOWN:
            self.assertEqual(last(*CALLS, text_of(number)), [-5])

    def test_the_text_of_a_refused_take_is_not_told(self):
        told = run(take(issue(1, 10, "new 1")), take(issue(1, 10, "new 2")), text_of(1), take(issue(2, 9)), text_of(2))
        self.assertEqual(told[1:], [[-6], [0] + as_numbers(issue(1, 10, "new 1")), [-7], [-5]])


class Day(unittest.TestCase):
    def test_day_and_lines(self):
        texts = [issue(1, 0), issue(2, 0, "drop 1"), issue(50, 77, *["drop 1"] * 40),
                 issue(99, 100000, "void 1 1", "new 1")]
        told = run(*[take(text) for text in texts], day_of(1), day_of(2), day_of(50), day_of(99))[4:]
        self.assertEqual(told, [[0, 0], [0, 1], [77, 40], [100000, 2]])

    def test_struck_lines_are_lines_too(self):
        self.assertEqual(last(*taken(["new 1", "void 1 1"], ["void 1 2"]), day_of(1)), [10, 2])

    def test_not_known(self):
        self.assertEqual(last(day_of(1)), [-5])
        for number in UNKNOWN:
            self.assertEqual(last(*CALLS, day_of(number)), [-5])


class Lose(unittest.TestCase):
    def test_how_many_are_known(self):
        told = run(*CALLS, lose(2), ISSUES, lose(4), ISSUES, lose(1), ISSUES)[3:]
        self.assertEqual(told, [[2], [0, 1, 4], [1], [0, 1], [0], [0]])

    def test_not_known(self):
        self.assertEqual(last(lose(1)), [-5])
        for number in UNKNOWN:
            self.assertEqual(run(*CALLS, lose(number), ISSUES)[3:], [[-5], [0, 1, 2, 4]])

    def test_not_known_a_second_time(self):
        self.assertEqual(run(*CALLS, lose(2), lose(2), ISSUES)[3:], [[2], [-5], [0, 1, 4]])

    def test_nothing_is_told_of_a_lost_one(self):
        told = run(*CALLS, lose(2), text_of(2), day_of(2), line(2, 1), without(2), [11, 2, 1])[4:]
        self.assertEqual(told, [[-5], [-5], [-5], [-4], [-5]])

    def test_its_lines_do_not_work_any_more(self):
        told = run(*CALLS, FILES, lose(4), FILES, file(1), lose(1), FILES, file(1))[3:]
        self.assertEqual(told, [[0, 1, 2], [2], [0, 1], [1, 1, 10, 1, 98], [1], [0], [0]])

    def test_its_corrections_do_not_stand_any_more(self):
        told = run(*CALLS, file(1), LAST, line(2, 1), lose(4), file(1), LAST, line(2, 1))[3:]
        said = as_numbers("set 1 10 b")
        self.assertEqual(told, [[1, 1, 10, 1, 97], [1, 4, 1], [2, 4, 1], [2], [1, 1, 10, 1, 98], [0], [0] + said])

    def test_a_gap_comes_and_goes(self):
        told = run(*CALLS, GAPS, lose(1), GAPS, lose(4), GAPS, lose(2), GAPS)[3:]
        self.assertEqual(told[0::2], [[0, 3], [0, 1, 3], [0, 1], [0]])

    def test_what_is_sure(self):
        calls = taken(["new 1", "new 2"], ["drop 1"], ["set 2 10 a"])
        told = run(*calls, sure(1), sure(2), lose(2), sure(1), sure(2), lose(3), sure(1), sure(2))[3:]
        self.assertEqual(told, [[1], [1], [2], [0], [0], [1], [1], [1]])
        self.assertEqual(run(*calls, lose(1), sure(1), sure(2))[4:], [[1], [0]])

    def test_another_text_or_day_can_be_taken_then(self):
        told = run(*CALLS, take(issue(2, 30)), lose(2), take(issue(2, 30)), take(issue(2, 20)), day_of(2))[3:]
        self.assertEqual(told, [[-6], [2], [2], [-6], [30, 0]])

    def test_the_days_of_lost_ones_are_not_asked(self):
        told = run(take(issue(5, 50)), take(issue(6, 49)), take(issue(4, 51)), lose(5), take(issue(6, 49)), lose(6),
                   take(issue(4, 51)))
        self.assertEqual(told, [[5], [-7], [-7], [0], [6], [0], [4]])

    def test_room_for_a_25th(self):
        calls = [take(issue(number, 5)) for number in range(1, 25)]
        told = run(*calls, take(issue(25, 5)), lose(7), take(issue(25, 5)), take(issue(7, 5)), lose(25),
                   take(issue(7, 5)), lose(99))[24:]
        self.assertEqual(told, [[-9], [23], [25], [-9], [23], [7], [-5]])

    def test_lost_in_any_order_and_taken_again(self):
        parts = {1: ["new 1 10 a", "new 2"], 2: ["fix 1 1 with new 1 11 b"], 4: ["void 2 1", "set 2 10 c"]}
        takes = {number: take(issue(number, 5, *lines)) for number, lines in parts.items()}
        questions = all_questions(files=(1, 2), numbers=range(0, 6))
        first = run(*takes.values(), *questions)[3:]
        for numbers in itertools.permutations(parts):
            for again in itertools.permutations(parts):
                told = run(*[takes[number] for number in numbers], *[lose(number) for number in again], ISSUES,
                           *[takes[number] for number in numbers], *questions)
                self.assertEqual(told[3:7], [[2], [1], [0], [0]])
                self.assertEqual(told[10:], first)

    def test_refusals_change_nothing(self):
        questions = all_questions(files=(1, 2), numbers=range(0, 6))
        before = run(*CALLS, *questions)[3:]
        refused = [ask(number) for number in UNKNOWN for ask in (text_of, day_of, lose)]
        self.assertEqual(run(*CALLS, *refused, *questions)[3 + len(refused):], before)


if __name__ == "__main__":
    unittest.main()
