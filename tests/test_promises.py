"""Points 1 to 4 of the promises, against a model that knows issues as lists, not as texts."""

import itertools
import random
import unittest

from tests.support import (FILES, GAPS, ISSUES, NO_RECORD, all_questions, as_numbers, behind, file, issue, judge, run,
                           sure, take, then, value)

CODES = (10, 11, 99)
SOME_FILES = range(1, 5)


def random_simple(chance):
    verb = chance.choice(["new", "new", "set", "set", "drop"])
    words = [verb, str(chance.choice(SOME_FILES))]
    if verb == "new":
        for code in sorted(chance.sample(CODES, chance.randrange(3))):
            words += [str(code), chance.choice("abcd")]
    if verb == "set":
        words += [str(chance.choice(CODES)), chance.choice("abcd")]
    return " ".join(words)


def random_line(chance, number, line_number):
    """A line of this issue; corrections aim at near places, so that they often strike one another."""
    kind = chance.choice(["simple", "simple", "fix", "void", "void"])
    aimed_issue = max(1, number - chance.choice([0, 0, 1, 1, 2, 5]))
    aimed_line = chance.randrange(1, 8) if aimed_issue < number else chance.randrange(0, line_number)
    if kind == "simple" or aimed_line == 0:
        return random_simple(chance)
    if kind == "void":
        return f"void {aimed_issue} {aimed_line}"
    return f"fix {aimed_issue} {aimed_line} with {random_simple(chance)}"


def random_lines(chance, number):
    return [random_line(chance, number, line_number) for line_number in range(1, chance.randrange(1, 8))]


def random_issues(chance, count):
    """Lines by issue's number."""
    return {number: random_lines(chance, number) for number in range(1, count + 1)}


def takes(lines_of, numbers):
    return [take(issue(number, number // 2, *lines_of[number])) for number in numbers]


class Model:
    """What the document says, word by word and without haste."""

    def __init__(self, lines_of):
        self.numbers = sorted(lines_of)
        self.lines = {(number, at): line.split() for number in self.numbers
                      for at, line in enumerate(lines_of[number], start=1)}
        self.standing = {}

    def aimed(self, place):
        line = self.lines[place]
        return (int(line[1]), int(line[2])) if line[0] in ("fix", "void") else None

    def aims_at(self, place):
        return [other for other in sorted(self.lines) if self.aimed(other) == place]

    def stands(self, place):
        if place not in self.standing:
            self.standing[place] = not any(self.lines[other][0] == "void" and self.stands(other)
                                           for other in self.aims_at(place))
        return self.standing[place]

    def in_the_end(self, place):
        deciding = [other for other in self.aims_at(place) if self.stands(other)]
        if not deciding:
            return self.lines[place]
        line = self.lines[deciding[-1]]
        return line[4:] if line[0] == "fix" else None

    def ended(self):
        simple = [place for place in sorted(self.lines) if self.aimed(place) is None]
        return [(place, self.in_the_end(place)) for place in simple if self.in_the_end(place) is not None]

    def files(self, n=99):
        files = {}
        for place, words in self.ended():
            fields = {int(code): text for code, text in zip(words[2::2], words[3::2])}
            if place[0] > n:
                continue
            if words[0] == "new":
                files[int(words[1])] = fields
            elif words[0] == "drop":
                files.pop(int(words[1]), None)
            elif int(words[1]) in files:
                files[int(words[1])].update(fields)
        return files

    def record(self, number, n=99):
        files = self.files(n)
        if number not in files:
            return NO_RECORD
        told = [1, len(files[number])]
        for code, text in sorted(files[number].items()):
            told += [code, len(text)] + as_numbers(text)
        return told

    def value(self, number, code):
        fields = self.files().get(number, {})
        return [0] + as_numbers(fields[code]) if code in fields else [-8]

    def gaps(self):
        return [number for number in range(1, max(self.numbers, default=0)) if number not in self.numbers]

    def sure(self, number):
        gaps = self.gaps()
        return not gaps or any(place[0] > gaps[-1] and words[0] in ("new", "drop") and int(words[1]) == number
                               for place, words in self.ended())


def model_answers(lines_of, n_range):
    """Questions, and what a model answers to each."""
    model = Model(lines_of)
    asked = [(ISSUES, [0] + model.numbers), (GAPS, [0] + model.gaps()), (FILES, [0] + sorted(model.files()))]
    for number in SOME_FILES:
        asked += [(file(number), model.record(number)), (sure(number), [int(model.sure(number))])]
        asked += [(value(number, code), model.value(number, code)) for code in CODES]
        for n in n_range:
            earlier = Model({each: lines for each, lines in lines_of.items() if each <= n})
            asked += [(behind(number, n), model.record(number, n)), (then(number, n), earlier.record(number))]
    return asked


class AgainstTheModel(unittest.TestCase):
    def test_random_issues(self):
        chance = random.Random(3)
        for round_number in range(60):
            lines_of = random_issues(chance, chance.randrange(1, 9))
            numbers = chance.sample(sorted(lines_of), chance.randrange(1, len(lines_of) + 1))
            asked = model_answers({number: lines_of[number] for number in numbers}, range(0, 10))
            told = run(*takes(lines_of, numbers), *[question for question, answer in asked])
            self.assertEqual(told[:len(numbers)], [[number] for number in numbers])
            for (question, answer), seen in zip(asked, told[len(numbers):]):
                self.assertEqual(seen, answer, (round_number, question))


class Point1(unittest.TestCase):
    LINES = {1: ["new 1 10 a", "new 2 10 a", "set 1 11 b"], 2: ["fix 1 1 with new 1 10 c", "void 1 3"],
             4: ["void 2 2", "set 2 10 z", "new 3"], 5: ["fix 4 2 with drop 2", "drop 3"]}

    def test_every_order(self):
        questions = all_questions(files=SOME_FILES, codes=(10, 11), numbers=range(0, 7))
        first = run(*takes(self.LINES, [1, 2, 4, 5]), *questions)[4:]
        for numbers in itertools.permutations([1, 2, 4, 5]):
            self.assertEqual(run(*takes(self.LINES, numbers), *questions)[4:], first)

    def test_some_of_them_twice(self):
        questions = all_questions(files=SOME_FILES, codes=(10, 11), numbers=range(0, 7))
        first = run(*takes(self.LINES, [1, 2, 4, 5]), *questions)[4:]
        for numbers in ([1, 1, 2, 4, 5], [5, 4, 5, 2, 1, 4], [4, 2, 2, 1, 5, 1, 2, 4, 5], [2, 5, 1, 4, 2]):
            told = run(*takes(self.LINES, numbers), *questions)
            self.assertEqual(told[:len(numbers)], [[number] for number in numbers])
            self.assertEqual(told[len(numbers):], first)

    def test_random_orders_of_random_issues(self):
        chance = random.Random(1)
        questions = all_questions(files=SOME_FILES, codes=CODES, numbers=range(0, 13, 3))
        for round_number in range(15):
            lines_of = random_issues(chance, 12)
            rising = sorted(chance.sample(sorted(lines_of), 9))
            first = run(*takes(lines_of, rising), *questions)[len(rising):]
            for again in range(3):
                numbers = rising + chance.sample(rising, 3)
                chance.shuffle(numbers)
                self.assertEqual(run(*takes(lines_of, numbers), *questions)[len(numbers):], first)


class Point2(unittest.TestCase):
    TEXTS = [issue(12, 90, "new 7 10 ab 11 close", "fix 12 1 with set 7 10 q", "void 1 2"),
             issue(5, 100000), issue(1, 0, "drop 11")]

    def assert_never_taken(self, texts):
        """In lists of calls of the size that can be handed in."""
        for start in range(0, len(texts), 60):
            some = texts[start:start + 60]
            told = run(*[take(text) for text in some], *[judge(text) for text in some], ISSUES)
            for text, taken, judged in zip(some, told, told[len(some):]):
                self.assertLess(taken[0], 0, bytes(text))
                self.assertGreater(judged[0], 0, bytes(text))
            self.assertEqual(told[-1], [0])

    def test_the_texts_are_issues(self):
        self.assertEqual(run(*[judge(text) for text in self.TEXTS]), [[0], [0], [0]])

    def test_each_single_byte_changed(self):
        for text in self.TEXTS:
            good = as_numbers(text)
            self.assert_never_taken([good[:place] + [byte] + good[place + 1:] for place in range(len(good))
                                     for byte in range(256) if byte != good[place]])

    def test_each_two_unequal_neighbours_exchanged(self):
        lines = ["new 321 10 ab 21 close 99 0a1b2c", "fix 12 1 with set 7 10 q", "void 1 2", "drop 98"] * 4
        for text in self.TEXTS + [issue(12, 13579, *lines)]:
            good = as_numbers(text)
            self.assert_never_taken([good[:place] + [good[place + 1], good[place]] + good[place + 2:]
                                     for place in range(len(good) - 1) if good[place] != good[place + 1]])


class Point3(unittest.TestCase):
    def test_what_stands_in_every_small_tangle(self):
        """All ways in which four corrections in a row can aim at what stands before them."""
        for aims in itertools.product(range(1, 2), range(1, 3), range(1, 4), range(1, 5)):
            for kinds in itertools.product(["void", "fix"], repeat=4):
                lines = ["new 1 10 a"]
                for at, (aim, kind) in enumerate(zip(aims, kinds), start=2):
                    lines.append(f"void 1 {aim}" if kind == "void" else f"fix 1 {aim} with new 1 10 {'abcdef'[at - 1]}")
                told = run(take(issue(1, 5, *lines)), file(1))[1]
                self.assertEqual(told, Model({1: lines}).record(1), lines)


class Point4(unittest.TestCase):
    def test_taking_the_missing_issue_leaves_a_sure_file(self):
        known = {1: ["new 1 10 a", "new 2 10 a"], 3: ["new 1 10 b", "set 2 10 c"], 4: ["set 1 11 c", "fix 3 1 with drop 1"]}
        for missing in (["drop 1", "drop 2"], ["void 1 1", "void 1 2"], ["new 1 99 z", "new 2 99 z"],
                        ["fix 1 1 with drop 2", "set 1 10 y", "set 2 10 y"]):
            told = run(*takes(known, [1, 3, 4]), sure(1), sure(2), file(1), *takes({2: missing}, [2]), file(1))
            self.assertEqual(told[3:5], [[1], [0]])
            self.assertEqual(told[5], told[7])

    def test_a_file_that_is_not_sure_can_change(self):
        known = {1: ["new 1 10 a"], 3: ["set 1 11 b"]}
        told = run(*takes(known, [1, 3]), sure(1), file(1), *takes({2: ["drop 1"]}, [2]), file(1), sure(1))
        self.assertEqual([told[2], told[5], told[6]], [[0], NO_RECORD, [1]])
        self.assertNotEqual(told[3], told[5])

    def test_whatever_random_missing_issues_say(self):
        chance = random.Random(4)
        seen_sure = 0
        for round_number in range(150):
            lines_of = random_issues(chance, 8)
            numbers = sorted(set(chance.sample(range(1, 8), chance.randrange(2, 7)) + [8]))
            missing = [number for number in range(1, 8) if number not in numbers]
            asked = [question for each in SOME_FILES for question in (sure(each), file(each))]
            others = {number: random_lines(chance, number) for number in missing}
            told = run(*takes(lines_of, numbers), *asked, *takes(others, missing), *asked)
            before = told[len(numbers):len(numbers) + len(asked)]
            after = told[-len(asked):]
            for at in range(0, len(asked), 2):
                if before[at] == [1]:
                    seen_sure += 1
                    self.assertEqual(before[at + 1], after[at + 1], (numbers, lines_of, others))
        self.assertGreater(seen_sure, 50)


if __name__ == "__main__":
    unittest.main()
