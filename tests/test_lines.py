"""Calls 10, 11 and 19: what a line says, which corrections aim at it, and the last one that stands."""

import itertools
import unittest

from tests.support import LAST, Model, aims, all_questions, as_numbers, issue, last, line, lose, run, take, taken

ODD_NUMBERS = (0, -1, 100, 41, 1000, -9223372036854775808, 9223372036854775807)
FIX = "fix 1 1 with set 2 11 b"


class SimpleLine(unittest.TestCase):
    def assert_line(self, told, *issues_lines):
        """Of line 1 of issue 1; a text in what is told stands for its bytes."""
        numbers = [number for part in told for number in (as_numbers(part) if isinstance(part, str) else [part])]
        self.assertEqual(last(*taken(*issues_lines), line(1, 1)), numbers, issues_lines)

    def test_number_by_number(self):
        calls = taken(["new 7 10 ab 99 z", "set 30 12 c", "drop 8"])
        self.assertEqual(run(*calls, line(1, 1), line(1, 2), line(1, 3))[1:], [
            [0, 110, 101, 119, 32, 55, 32, 49, 48, 32, 97, 98, 32, 57, 57, 32, 122],
            [0, 115, 101, 116, 32, 51, 48, 32, 49, 50, 32, 99],
            [0, 100, 114, 111, 112, 32, 56]])

    def test_a_fix_number_by_number(self):
        calls = taken(["drop 8"], [], ["drop 9", "fix 1 1 with set 7 10 b"])
        self.assertEqual(last(*calls, line(1, 1)), [1, 3, 2, 115, 101, 116, 32, 55, 32, 49, 48, 32, 98])

    def test_a_void_number_by_number(self):
        self.assertEqual(last(*taken(["drop 8"], [], ["drop 9", "void 1 1"]), line(1, 1)), [2, 3, 2])

    def test_nothing_aims_at_it(self):
        for text in ("new 1", "new 999 10 a", "new 1 10 abcdefghijkl 55 0 99 007", "set 999 99 zz9", "drop 999"):
            self.assert_line([0, text], [text])
            self.assert_line([0, text], [text, "drop 1", "void 1 2"])

    def test_a_new_with_every_code(self):
        text = "new 1 " + " ".join(f"{code} v{code}" for code in range(10, 100))
        self.assert_line([0, text], [text])
        self.assert_line([1, 2, 1, text], ["drop 1"], ["fix 1 1 with " + text])

    def test_a_fix_decides(self):
        for text in ("new 1", "new 5 10 a 11 b", "set 999 99 zz9", "drop 999"):
            self.assert_line([1, 2, 1, text], ["new 1 10 a"], [f"fix 1 1 with {text}"])
            self.assert_line([1, 1, 2, text], ["new 1 10 a", f"fix 1 1 with {text}"])

    def test_a_void_decides(self):
        self.assert_line([2, 2, 1], ["new 1"], ["void 1 1"])
        self.assert_line([2, 1, 2], ["new 1", "void 1 1"])

    def test_the_last_that_stands_decides(self):
        self.assert_line([1, 3, 1, "drop 2"], ["new 1"], ["fix 1 1 with new 3"], ["fix 1 1 with drop 2"])
        self.assert_line([1, 2, 2, "drop 2"], ["new 1"], ["fix 1 1 with new 3", "fix 1 1 with drop 2"])
        self.assert_line([2, 3, 1], ["new 1"], [FIX], ["void 1 1"])
        self.assert_line([1, 3, 1, "set 2 11 b"], ["new 1"], ["void 1 1"], [FIX])

    def test_where_the_last_that_aims_does_not_stand(self):
        self.assert_line([0, "new 1"], ["new 1"], [FIX], ["void 2 1"])
        self.assert_line([0, "new 1"], ["new 1"], ["void 1 1"], ["void 2 1"])
        self.assert_line([1, 2, 1, "set 2 11 b"], ["new 1"], [FIX], ["void 1 1"], ["void 3 1"])
        self.assert_line([2, 2, 1], ["new 1"], ["void 1 1"], [FIX], ["void 3 1"])
        self.assert_line([1, 2, 1, "set 2 11 b"], ["new 1"], [FIX], ["fix 1 1 with drop 1"], ["void 3 1"])
        self.assert_line([1, 2, 1, "set 2 11 b"], ["new 1"], [FIX], ["void 2 1"], ["void 3 1"])

    def test_a_fix_of_its_correction_does_nothing(self):
        self.assert_line([1, 2, 1, "set 2 11 b"], ["new 1"], [FIX], ["fix 2 1 with drop 9"])
        self.assert_line([2, 2, 1], ["new 1"], ["void 1 1"], ["fix 2 1 with drop 9"])

    def test_what_it_says_is_not_what_the_file_is(self):
        self.assert_line([0, "set 1 10 a"], ["set 1 10 a", "drop 1"])
        self.assert_line([0, "new 1 10 a"], ["new 1 10 a", "set 1 10 b", "new 1 11 c"])

    def test_a_correction_of_its_neighbours_changes_nothing(self):
        self.assert_line([0, "new 1"], ["new 1", "new 2"], ["void 1 2"], ["fix 2 1 with drop 2", "void 1 3"])
        self.assertEqual(last(*taken(["new 1"], ["new 2"], ["void 1 1"]), line(2, 1)), [0] + as_numbers("new 2"))

    def test_however_they_came_and_behind_lose(self):
        parts = {1: ["new 1"], 2: [FIX], 3: ["void 1 1"], 4: ["void 3 1"]}
        for numbers in itertools.permutations(parts):
            calls = [take(issue(number, 5, *parts[number])) for number in (*numbers, *numbers[:2])]
            told = run(*calls, line(1, 1), lose(4), line(1, 1), lose(3), line(1, 1), lose(2), line(1, 1), lose(1),
                       line(1, 1))[len(calls)::2]
            fixed = [1, 2, 1] + as_numbers("set 2 11 b")
            self.assertEqual(told, [fixed, [2, 3, 1], fixed, [0] + as_numbers("new 1"), [-5]])


class CorrectionLine(unittest.TestCase):
    def assert_stands(self, told, place, *issues_lines):
        self.assertEqual(last(*taken(*issues_lines), line(*place)), [3 if told else 4], issues_lines)

    def test_one_that_stands(self):
        self.assert_stands(True, (2, 1), ["new 1"], ["void 1 1"])
        self.assert_stands(True, (2, 1), ["new 1"], [FIX])

    def test_one_that_does_not(self):
        self.assert_stands(False, (2, 1), ["new 1"], ["void 1 1"], ["void 2 1"])
        self.assert_stands(False, (2, 1), ["new 1"], [FIX], ["void 2 1"])
        self.assert_stands(False, (2, 1), ["new 1"], [FIX, "void 2 1"])

    def test_one_that_stands_again(self):
        lines = ["new 1", "void 1 1", "void 1 2", "void 1 3"]
        for count, told in ((2, True), (3, False), (4, True)):
            self.assert_stands(told, (1, 2), lines[:count])
        self.assert_stands(True, (2, 1), ["new 1"], [FIX], ["void 2 1"], ["void 3 1"])

    def test_a_fix_strikes_nothing(self):
        self.assert_stands(True, (2, 1), ["new 1"], [FIX], ["fix 2 1 with drop 1"])
        self.assert_stands(True, (2, 1), ["new 1"], ["void 1 1"], ["fix 2 1 with drop 1"])

    def test_a_later_one_of_the_same_line_leaves_it_standing(self):
        self.assert_stands(True, (2, 1), ["new 1"], [FIX], ["void 1 1"])
        self.assert_stands(True, (2, 1), ["new 1"], ["void 1 1"], ["void 1 1"])

    def test_one_of_two_that_strike_it_is_enough(self):
        self.assert_stands(False, (2, 1), ["new 1"], [FIX], ["void 2 1", "void 2 1"], ["void 3 1"])
        self.assert_stands(False, (2, 1), ["new 1"], [FIX], ["void 2 1", "void 2 1"], ["void 3 2"])
        self.assert_stands(True, (2, 1), ["new 1"], [FIX], ["void 2 1", "void 2 1"], ["void 3 1", "void 3 2"])

    def test_one_that_aims_at_nothing_known(self):
        self.assert_stands(True, (3, 1), ["new 1"], None, ["void 2 1"])
        self.assert_stands(True, (3, 1), ["new 1"], None, ["fix 1 40 with drop 1"])
        self.assert_stands(False, (3, 1), ["new 1"], None, ["void 2 1"], ["void 3 1"])

    def test_a_chain_of_40_lines(self):
        lines = ["new 1"] + [f"void 1 {at}" for at in range(1, 40)]
        told = run(take(issue(1, 5, *lines)), *[line(1, at) for at in range(1, 42)], LAST)[1:]
        corrections = [[3 if at % 2 == 0 else 4] for at in range(2, 41)]
        self.assertEqual(told, [[2, 1, 2]] + corrections + [[-5], [1, 1, 40]])


class NoSuchLine(unittest.TestCase):
    CALLS = taken(["new 1", "drop 1"], None, ["void 1 1"], [])

    def test_no_known_issue(self):
        self.assertEqual(run(line(1, 1), aims(1, 1)), [[-5], [-5]])
        for number in (2, 5, 99, *ODD_NUMBERS):
            self.assertEqual(run(*self.CALLS, line(number, 1), aims(number, 1))[3:], [[-5], [-5]], number)

    def test_no_such_line(self):
        for place in ((1, 3), (3, 2), (4, 1), (1, 40), *[(1, number) for number in ODD_NUMBERS]):
            self.assertEqual(run(*self.CALLS, line(*place), aims(*place))[3:], [[-5], [-5]], place)

    def test_neither(self):
        for number in ODD_NUMBERS:
            self.assertEqual(run(*self.CALLS, line(number, number), aims(number, number))[3:], [[-5], [-5]])

    def test_the_last_line_is_one(self):
        self.assertEqual(run(*self.CALLS, line(1, 2), aims(1, 2))[3:], [[0] + as_numbers("drop 1"), [0]])

    def test_a_line_that_is_aimed_at_but_not_there(self):
        calls = taken(["new 1"], None, ["void 1 2", "void 2 1"])
        self.assertEqual(run(*calls, aims(1, 2), aims(2, 1), line(1, 2), line(2, 1))[2:], [[-5]] * 4)

    def test_refusals_change_nothing(self):
        questions = all_questions(files=range(1, 4), numbers=range(0, 6))
        before = run(*self.CALLS, *questions)[3:]
        asked = [ask(number, at) for ask in (line, aims) for number, at in ((2, 1), (1, 3), (1, 0), (0, 0), (-1, -1))]
        self.assertEqual(run(*self.CALLS, *asked, *questions)[3 + len(asked):], before)


class Aims(unittest.TestCase):
    def assert_aims(self, told, place, *issues_lines):
        self.assertEqual(last(*taken(*issues_lines), aims(*place)), [0] + told, issues_lines)

    def test_none(self):
        self.assert_aims([], (1, 1), ["new 1"])
        self.assert_aims([], (2, 1), ["new 1"], [FIX])
        self.assert_aims([], (1, 1), ["new 1", "new 1"], ["void 1 2", "void 2 1"])

    def test_at_a_simple_line(self):
        self.assert_aims([2, 1, 1], (1, 1), ["new 1"], ["void 1 1"])
        self.assert_aims([1, 2, 1], (1, 1), ["new 1", FIX])

    def test_at_a_correction(self):
        self.assert_aims([3, 1, 1], (2, 1), ["new 1"], [FIX], ["void 2 1"])
        self.assert_aims([3, 1, 1, 3, 2, 1], (2, 1), ["new 1"], ["void 1 1"], ["fix 2 1 with drop 1", "void 2 1"])

    def test_those_that_stand_and_those_that_do_not(self):
        self.assert_aims([2, 1, 0], (1, 1), ["new 1"], [FIX], ["void 2 1"])
        self.assert_aims([2, 1, 0, 2, 3, 1, 3, 2, 1], (1, 1), ["new 1"], [FIX, "drop 7", "void 1 1"],
                         ["void 2 1", "fix 1 1 with drop 9"])
        self.assert_aims([2, 1, 1, 3, 1, 0], (1, 1), ["new 1"], [FIX], ["void 1 1"], ["void 3 1"])
        self.assert_aims([3, 1, 0], (2, 1), ["new 1"], [FIX], ["void 2 1"], ["void 3 1"])

    def test_in_order_of_their_places_however_they_came(self):
        parts = {1: ["new 1"], 2: ["void 1 1"], 9: [FIX, "void 1 1"], 10: ["void 9 2", "void 1 1"]}
        for numbers in itertools.permutations(parts):
            calls = [take(issue(number, 5, *parts[number])) for number in (*numbers, *numbers[2:])]
            told = run(*calls, aims(1, 1), lose(10), aims(1, 1), lose(9), aims(1, 1), lose(2), aims(1, 1), lose(1),
                       aims(1, 1))[len(calls)::2]
            self.assertEqual(told, [[0, 2, 1, 1, 9, 1, 1, 9, 2, 0, 10, 2, 1], [0, 2, 1, 1, 9, 1, 1, 9, 2, 1],
                                    [0, 2, 1, 1], [0], [-5]])

    def test_as_many_as_can_be(self):
        # 24 issues with 40 lines each, of which all but the first line aim at that line.
        texts = [issue(1, 0, "new 1", *["void 1 1"] * 39)]
        texts += [issue(number, 0, *["void 1 1"] * 40) for number in range(2, 25)]
        told = run(*[take(text) for text in texts], aims(1, 1), line(1, 1), LAST)[24:]
        places = [(number, at) for number in range(1, 25) for at in range(1, 41)][1:]
        # A difference of such long lists would take long to be shown.
        self.assertTrue(told[0] == [0] + [each for place in places for each in (*place, 1)])
        self.assertEqual(told[1:], [[2, 24, 40], [1, 24, 40]])

    def test_200_times(self):
        texts = [issue(1, 0, "new 1", *["void 1 1"] * 39)]
        texts += [issue(number, 0, *["void 1 1"] * 40) for number in range(2, 25)]
        told = run(*[take(text) for text in texts], *[aims(1, 1)] * 200, *[line(1, 1)] * 176)[24:]
        self.assertEqual({len(each) for each in told[:200]}, {1 + 3 * 959})
        self.assertEqual(told[200:], [[2, 24, 40]] * 176)


class Last(unittest.TestCase):
    def assert_last(self, told, *issues_lines):
        self.assertEqual(last(*taken(*issues_lines), LAST), told, issues_lines)

    def test_no_correction(self):
        self.assert_last([0])
        self.assert_last([0], [])
        self.assert_last([0], ["new 1", "drop 1"])

    def test_one(self):
        self.assert_last([1, 1, 2], ["new 1", "void 1 1", "drop 1"])
        self.assert_last([1, 2, 1], ["new 1"], [FIX])
        self.assert_last([1, 2, 1], None, ["void 1 1"])

    def test_the_last_of_several(self):
        self.assert_last([1, 2, 2], ["new 1", "void 1 1"], [FIX, FIX], ["drop 1"])
        self.assert_last([1, 10, 1], ["new 1", *["drop 1"] * 20, "void 1 1"], *[[]] * 7, ["void 1 1"], [FIX])

    def test_the_last_of_all_stands_always(self):
        self.assert_last([1, 3, 1], ["new 1"], ["void 1 1"], ["void 2 1"])
        self.assert_last([1, 2, 3], ["new 1"], ["void 1 1", "void 2 1", "void 2 2"])

    def test_however_they_came_and_behind_lose(self):
        parts = {1: ["new 1", "void 1 1"], 2: [], 3: ["void 1 2"], 12: [FIX]}
        for numbers in itertools.permutations(parts):
            calls = [take(issue(number, 5, *parts[number])) for number in (*numbers, *numbers)]
            told = run(*calls, LAST, lose(12), LAST, lose(3), LAST, lose(1), LAST)[len(calls)::2]
            self.assertEqual(told, [[1, 12, 1], [1, 3, 1], [1, 1, 2], [0]])


class EverySmallTangle(unittest.TestCase):
    PLACES = ((1, 1), (1, 2), (2, 1), (2, 2))

    def corrections(self, targets, kinds):
        aimed = [f"{number} {at}" for number, at in (self.PLACES[target] for target in targets)]
        return [f"void {aim}" if kind == "void" else f"fix {aim} with drop {target + 1}"
                for target, aim, kind in zip(targets, aimed, kinds)]

    def test_of_three_corrections_in_two_issues(self):
        for targets in itertools.product((0,), (0, 1), (0, 1, 2)):
            for kinds in itertools.product(["void", "fix"], repeat=3):
                lines = self.corrections(targets, kinds)
                model = Model({1: ["new 1", lines[0]], 2: lines[1:]})
                told = run(take(issue(2, 5, *lines[1:])), take(issue(1, 5, "new 1", lines[0])), LAST,
                           *[ask(*place) for place in self.PLACES for ask in (line, aims)])[2:]
                asked = [answer for place in self.PLACES for answer in (model.line(place), model.aims(place))]
                self.assertEqual(told, [model.last()] + asked, lines)


if __name__ == "__main__":
    unittest.main()
