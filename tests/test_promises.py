"""Points 1 to 4 of the promises, against a model that knows issues as lists, not as texts."""

import itertools
import random
import unittest

from tests.support import (CODES, FILES, GAPS, ISSUES, LAST, NO_RECORD, SOME_FILES, Model, aims, all_questions,
                           as_numbers, behind, file, history, issue, judge, line, lose, random_issues, random_lines,
                           run, search, sure, take, then, value, write)

def takes(lines_of, numbers):
    return [take(issue(number, number // 2, *lines_of[number])) for number in numbers]


def model_answers(lines_of, n_range):
    """Questions, and what a model answers to each."""
    model = Model(lines_of)
    asked = [(ISSUES, [0] + model.numbers), (GAPS, [0] + model.gaps()), (FILES, [0] + sorted(model.files())),
             (LAST, model.last())]
    for number in SOME_FILES:
        asked += [(file(number), model.record(number)), (sure(number), [int(model.sure(number))]),
                  (history(number), model.history(number))]
        asked += [(value(number, code), model.value(number, code)) for code in CODES]
        for n in n_range:
            earlier = Model({each: lines for each, lines in lines_of.items() if each <= n})
            asked += [(behind(number, n), model.record(number, n)), (then(number, n), earlier.record(number))]
    asked += [(line(*place), model.line(place)) for place in model.lines]
    asked += [(aims(*place), model.aims(place)) for place in model.lines]
    return asked + [(search(code, sign), model.search(code, sign)) for code in CODES for sign in "abcd"]


class AgainstTheModel(unittest.TestCase):
    def test_random_issues(self):
        chance = random.Random(3)
        for round_number in range(60):
            lines_of = random_issues(chance, chance.randrange(1, 9))
            numbers = chance.sample(sorted(lines_of), chance.randrange(1, len(lines_of) + 1))
            asked = model_answers({number: lines_of[number] for number in numbers}, range(0, 10))
            told = run(*takes(lines_of, numbers), *[question for question, answer in asked])
            self.assertEqual(told[:len(numbers)], [[number] for number in numbers])
            for (question, answer), seen in zip(asked, told[len(numbers):]):
                self.assertEqual(seen, answer, (round_number, question))


class Point1(unittest.TestCase):
    LINES = {1: ["new 1 10 a", "new 2 10 a", "set 1 11 b"], 2: ["fix 1 1 with new 1 10 c", "void 1 3"],
             4: ["void 2 2", "set 2 10 z", "new 3"], 5: ["fix 4 2 with drop 2", "drop 3"]}

    def test_every_order(self):
        questions = all_questions(files=SOME_FILES, codes=(10, 11), numbers=range(0, 7))
        first = run(*takes(self.LINES, [1, 2, 4, 5]), *questions)[4:]
        for numbers in itertools.permutations([1, 2, 4, 5]):
            self.assertEqual(run(*takes(self.LINES, numbers), *questions)[4:], first)

    def test_some_of_them_twice(self):
        questions = all_questions(files=SOME_FILES, codes=(10, 11), numbers=range(0, 7))
        first = run(*takes(self.LINES, [1, 2, 4, 5]), *questions)[4:]
        for numbers in ([1, 1, 2, 4, 5], [5, 4, 5, 2, 1, 4], [4, 2, 2, 1, 5, 1, 2, 4, 5], [2, 5, 1, 4, 2]):
            told = run(*takes(self.LINES, numbers), *questions)
            self.assertEqual(told[:len(numbers)], [[number] for number in numbers])
            self.assertEqual(told[len(numbers):], first)

    def test_lost_and_taken_again(self):
        questions = all_questions(files=SOME_FILES, codes=(10, 11), numbers=range(0, 7))
        first = run(*takes(self.LINES, [1, 2, 4, 5]), *questions)[4:]
        for number in self.LINES:
            told = run(*takes(self.LINES, [5, 2, 4, 1]), lose(number), *takes(self.LINES, [number]), *questions)
            self.assertEqual(told[4:6], [[3], [number]])
            self.assertEqual(told[6:], first)

    def test_lost_is_as_never_taken(self):
        questions = all_questions(files=SOME_FILES, codes=(10, 11), numbers=range(0, 7))
        for number in self.LINES:
            others = [each for each in self.LINES if each != number]
            never = run(*takes(self.LINES, others), *questions)[3:]
            for numbers in itertools.permutations(self.LINES):
                self.assertEqual(run(*takes(self.LINES, numbers), lose(number), *questions)[5:], never)

    def test_random_orders_of_random_issues(self):
        chance = random.Random(1)
        questions = all_questions(files=SOME_FILES, codes=CODES, numbers=range(0, 13, 3))
        for round_number in range(15):
            lines_of = random_issues(chance, 12)
            rising = sorted(chance.sample(sorted(lines_of), 9))
            first = run(*takes(lines_of, rising), *questions)[len(rising):]
            for again in range(3):
                numbers = rising + chance.sample(rising, 3)
                chance.shuffle(numbers)
                self.assertEqual(run(*takes(lines_of, numbers), *questions)[len(numbers):], first)


class Point2(unittest.TestCase):
    TEXTS = [issue(12, 90, "new 7 10 ab 11 close", "fix 12 1 with set 7 10 q", "void 1 2"),
             issue(5, 100000), issue(1, 0, "drop 11")]

    def assert_never_taken(self, texts):
        """In lists of calls of the size that can be handed in."""
        at_once = min(60, 7500 // (2 + len(texts[0])))
        for start in range(0, len(texts), at_once):
            some = texts[start:start + at_once]
            told = run(*[take(text) for text in some], *[judge(text) for text in some], ISSUES)
            for text, taken, judged in zip(some, told, told[len(some):]):
                self.assertLess(taken[0], 0, bytes(text))
                self.assertGreater(judged[0], 0, bytes(text))
            self.assertEqual(told[-1], [0])

    def test_the_texts_are_issues(self):
        self.assertEqual(run(*[judge(text) for text in self.TEXTS]), [[0], [0], [0]])

    def test_each_single_byte_changed(self):
        for text in self.TEXTS:
            good = as_numbers(text)
            self.assert_never_taken([good[:place] + [byte] + good[place + 1:] for place in range(len(good))
                                     for byte in range(256) if byte != good[place]])

    def test_each_two_unequal_neighbours_exchanged(self):
        lines = ["new 321 10 ab 21 close 99 0a1b2c", "fix 12 1 with set 7 10 q", "void 1 2", "drop 98"] * 4
        for text in self.TEXTS + [issue(12, 13579, *lines)]:
            good = as_numbers(text)
            self.assert_never_taken([good[:place] + [good[place + 1], good[place]] + good[place + 2:]
                                     for place in range(len(good) - 1) if good[place] != good[place + 1]])

    def test_a_written_issue_with_a_byte_changed_or_neighbours_exchanged(self):
        good = run(write(31, 4159, "new 26 53 close\nvoid 31 1\nfix 5 8 with drop 97\n"))[0][1:]
        self.assertEqual(run(judge(good), take(good)), [[0], [31]])
        self.assert_never_taken([good[:place] + [byte] + good[place + 1:] for place in range(len(good))
                                 for byte in (0, 10, 32, 48, 49, 57, 97, 122, 255, good[place] ^ 1)
                                 if byte != good[place]])
        self.assert_never_taken([good[:place] + [good[place + 1], good[place]] + good[place + 2:]
                                 for place in range(len(good) - 1) if good[place] != good[place + 1]])


class Point3(unittest.TestCase):
    def test_what_stands_in_every_small_tangle(self):
        """All ways in which four corrections in a row can aim at what stands before them."""
        for targets in itertools.product(range(1, 2), range(1, 3), range(1, 4), range(1, 5)):
            for kinds in itertools.product(["void", "fix"], repeat=4):
                lines = ["new 1 10 a"]
                for at, (aim, kind) in enumerate(zip(targets, kinds), start=2):
                    lines.append(f"void 1 {aim}" if kind == "void" else f"fix 1 {aim} with new 1 10 {'abcdef'[at - 1]}")
                told = run(take(issue(1, 5, *lines)), file(1), *[line(1, at) for at in range(2, 6)])[1:]
                model = Model({1: lines})
                self.assertEqual(told[0], model.record(1), lines)
                self.assertEqual(told[1:], [[3] if model.stands((1, at)) else [4] for at in range(2, 6)], lines)

    def test_just_if_none_that_stands_strikes_it(self):
        """Asked of what the program itself tells of the corrections that aim at each."""
        chance = random.Random(33)
        for round_number in range(40):
            lines_of = random_issues(chance, 9)
            numbers = chance.sample(sorted(lines_of), chance.randrange(2, 10))
            places = [(number, at) for number in numbers for at, text in enumerate(lines_of[number], start=1)
                      if text.startswith(("fix", "void"))]
            told = run(*takes(lines_of, numbers), *[line(*place) for place in places],
                       *[aims(*place) for place in places])[len(numbers):]
            for place, stands, aiming in zip(places, told, told[len(places):]):
                struck = [at for at in range(1, len(aiming), 3)
                          if lines_of[aiming[at]][aiming[at + 1] - 1].startswith("void") and aiming[at + 2] == 1]
                self.assertEqual(stands, [4] if struck else [3], (place, lines_of))


class Point4(unittest.TestCase):
    def test_taking_the_missing_issue_leaves_a_sure_file(self):
        known = {1: ["new 1 10 a", "new 2 10 a"], 3: ["new 1 10 b", "set 2 10 c"],
                 4: ["set 1 11 c", "fix 3 1 with drop 1"]}
        for missing in (["drop 1", "drop 2"], ["void 1 1", "void 1 2"], ["new 1 99 z", "new 2 99 z"],
                        ["fix 1 1 with drop 2", "set 1 10 y", "set 2 10 y"]):
            told = run(*takes(known, [1, 3, 4]), sure(1), sure(2), file(1), *takes({2: missing}, [2]), file(1))
            self.assertEqual(told[3:5], [[1], [0]])
            self.assertEqual(told[5], told[7])

    def test_a_file_that_is_not_sure_can_change(self):
        known = {1: ["new 1 10 a"], 3: ["set 1 11 b"]}
        told = run(*takes(known, [1, 3]), sure(1), file(1), *takes({2: ["drop 1"]}, [2]), file(1), sure(1))
        self.assertEqual([told[2], told[5], told[6]], [[0], NO_RECORD, [1]])
        self.assertNotEqual(told[3], told[5])

    def test_lost_issues_leave_a_sure_file_sure_whatever_comes_in_their_stead(self):
        chance = random.Random(44)
        seen_sure = 0
        asked = [question for each in SOME_FILES for question in (sure(each), file(each))]
        for round_number in range(150):
            lines_of = random_issues(chance, 8)
            lost = chance.sample(range(1, 8), chance.randrange(1, 5))
            others = {number: random_lines(chance, number) for number in lost}
            told = run(*takes(lines_of, range(1, 9)), *[lose(number) for number in lost], *asked,
                       *takes(others, lost), *asked)[8 + len(lost):]
            before, after = told[:len(asked)], told[-len(asked):]
            for at in range(0, len(asked), 2):
                self.assertEqual(after[at], [1])
                if before[at] == [1]:
                    seen_sure += 1
                    self.assertEqual(before[at + 1], after[at + 1], (lost, lines_of, others))
        self.assertGreater(seen_sure, 50)

    def test_whatever_random_missing_issues_say(self):
        chance = random.Random(4)
        seen_sure = 0
        for round_number in range(150):
            lines_of = random_issues(chance, 8)
            numbers = sorted(set(chance.sample(range(1, 8), chance.randrange(2, 7)) + [8]))
            missing = [number for number in range(1, 8) if number not in numbers]
            asked = [question for each in SOME_FILES for question in (sure(each), file(each))]
            others = {number: random_lines(chance, number) for number in missing}
            told = run(*takes(lines_of, numbers), *asked, *takes(others, missing), *asked)
            before = told[len(numbers):len(numbers) + len(asked)]
            after = told[-len(asked):]
            for at in range(0, len(asked), 2):
                if before[at] == [1]:
                    seen_sure += 1
                    self.assertEqual(before[at + 1], after[at + 1], (numbers, lines_of, others))
        self.assertGreater(seen_sure, 50)


if __name__ == "__main__":
    unittest.main()
