"""Calls 0, 2 and 3: issues that come one behind another."""

import unittest

from tests.support import FILES, GAPS, ISSUES, all_questions, issue, judge, run, take, last


class Taking(unittest.TestCase):
    def test_the_answer_is_the_number(self):
        self.assertEqual(run(take(issue(7, 3)), take(issue(1, 0)), take(issue(99, 100000))), [[7], [1], [99]])

    def test_the_same_text_again(self):
        text = issue(7, 3, "new 1 10 a")
        self.assertEqual(run(take(text), take(text), ISSUES, FILES), [[7], [7], [0, 7], [0, 1]])

    def test_another_text_of_a_known_number(self):
        told = run(take(issue(7, 3, "new 1")), take(issue(7, 3, "new 2")), take(issue(7, 4, "new 1")), FILES)
        self.assertEqual(told, [[7], [-6], [-6], [0, 1]])

    def test_days_out_of_order(self):
        first = take(issue(7, 50))
        for number, day, answer in ((6, 51, -7), (6, 50, 6), (6, 0, 6), (8, 49, -7), (8, 50, 8), (8, 51, 8),
                                    (1, 51, -7), (99, 49, -7)):
            told = run(first, take(issue(number, day)), ISSUES)
            known = [7] if answer == -7 else sorted([7, number])
            self.assertEqual(told, [[7], [answer], [0] + known], (number, day))

    def test_days_against_issues_that_are_not_neighbours(self):
        taken = [take(issue(2, 10)), take(issue(8, 20)), take(issue(5, 15))]
        self.assertEqual(last(*taken, take(issue(9, 19))), [-7])
        self.assertEqual(last(*taken, take(issue(9, 14))), [-7])
        self.assertEqual(last(*taken, take(issue(1, 11))), [-7])
        self.assertEqual(last(*taken, take(issue(6, 14))), [-7])
        self.assertEqual(last(*taken, take(issue(6, 21))), [-7])
        self.assertEqual(last(*taken, take(issue(6, 17))), [6])

    def test_a_25th_issue(self):
        taken = [take(issue(number, 5)) for number in range(1, 25)]
        numbers = [0] + list(range(1, 25))
        told = run(*taken, take(issue(25, 5)), ISSUES, take(issue(24, 5)), take(issue(1, 5)))
        self.assertEqual(told[:24], [[number] for number in range(1, 25)])
        self.assertEqual(told[24:], [[-9], numbers, [24], [1]])

    def test_the_order_of_refusals(self):
        taken = [take(issue(number, 5)) for number in range(2, 26)]
        for text, answer in (
            (list(b"gazette 2") + [256], -1),
            ("gazette 2 of 5", -1014),
            ("gazette 2 of 9\nclose 1 1", -2),
            ("gazette 30 of 4\nclose 1 1", -2),
            (issue(2, 5), 2),
            (issue(2, 6), -6),
            (issue(25, 0), -6),
            (issue(1, 6), -7),
            (issue(26, 4), -7),
            (issue(1, 5), -9),
            (issue(26, 5), -9),
        ):
            self.assertEqual(last(*taken, take(text)), [answer], text)

    def test_another_text_comes_before_days(self):
        self.assertEqual(last(take(issue(2, 5)), take(issue(3, 5)), take(issue(2, 6))), [-6])

    def test_refusals_change_nothing(self):
        taken = [take(issue(number, 50, f"new {number - 1} 10 a{number}")) for number in range(2, 26, 3)]
        questions = all_questions()
        before = run(*taken, *questions)[len(taken):]
        refused = [take(issue(2, 50, "drop 1")), take(issue(3, 49, "drop 1")), take(issue(4, 51, "drop 1")),
                   take("gazette 3 of 50\ndrop 1\nclose 1 1"), take("gazette 3 of 50\ndrop 1"),
                   take([256]), take([]), judge(issue(3, 50, "drop 1")),
                   [4, 0], [5, 1, 9], [5, 1, 77], [7, 1000], [8, 1, 100], [9, 1, -1]]
        told = run(*taken, *refused, *questions)
        after = told[len(taken) + len(refused):]
        self.assertEqual(after, before)

    def test_a_refused_25th_changes_nothing(self):
        taken = [take(issue(number, 5, f"new {number}")) for number in range(1, 25)]
        questions = all_questions(files=(1, 24, 25), numbers=(0, 24, 25, 99))
        before = run(*taken, *questions)[24:]
        self.assertEqual(run(*taken, take(issue(25, 5, "new 25", "void 1 1")), *questions)[25:], before)


class IssuesAndGaps(unittest.TestCase):
    def test_none_known(self):
        self.assertEqual(run(ISSUES, GAPS), [[0], [0]])

    def test_rising_however_they_came(self):
        taken = [take(issue(number, 1)) for number in (5, 2, 9, 1)]
        self.assertEqual(run(*taken, ISSUES, GAPS)[4:], [[0, 1, 2, 5, 9], [0, 3, 4, 6, 7, 8]])

    def test_no_gap(self):
        self.assertEqual(run(take(issue(2, 1)), take(issue(1, 1)), GAPS)[2], [0])

    def test_a_gap_before(self):
        self.assertEqual(run(take(issue(2, 1)), GAPS)[1], [0, 1])

    def test_all_gaps_but_the_last_number(self):
        self.assertEqual(run(take(issue(99, 1)), GAPS)[1], [0] + list(range(1, 99)))

    def test_behind_the_greatest_is_no_gap(self):
        self.assertEqual(run(take(issue(1, 1)), GAPS)[1], [0])

    def test_a_gap_is_closed(self):
        told = run(take(issue(3, 1)), GAPS, take(issue(2, 1)), GAPS, take(issue(1, 1)), GAPS)
        self.assertEqual(told[1::2], [[0, 1, 2], [0, 1], [0]])


if __name__ == "__main__":
    unittest.main()
