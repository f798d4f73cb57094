"""Drawn scripts over all twenty calls, against a model, and points 1 to 4 of the promises where they end."""

import random
import unittest

from issuerolls.gazette import answers
from tests.support import (CODES, FILES, GAPS, ISSUES, LAST, SOME_FILES, Model, aims, all_questions, as_numbers, behind,
                           day_of, ended, file, history, issue, judge, line, lose, marked, random_lines, run, search,
                           sure, take, text_of, then, value, without, write)

ODD_NUMBERS = (0, -1, 100, 1000, -9223372036854775808, 9223372036854775807)
NO_BYTES = (-1, 256, -9223372036854775808, 9223372036854775807)
FAULTY_LINES = ("drop |0", "new 1 10 a |10 b", "set 1 10 |A", "void |100 1", "void 1 |41", "|newer 1", "drop|", "|",
                "fix 1 |0 with drop 1", "drop 1 |", "| drop 1", "new 1 10|", "set 1 |100 a")


class Script:
    """Calls as they are drawn, and what a model answers to each; it keeps what is known as lists of lines."""

    def __init__(self, chance, greatest, length):
        self.chance = chance
        self.greatest = greatest
        self.known = {}
        self.calls = []
        self.told = []
        draws = [self.draw_take] * (40 if greatest > 24 else 5) + [
            self.draw_judge, self.draw_overview, self.draw_file, self.draw_value, self.draw_then, self.draw_line,
            self.draw_line, self.draw_aims, self.draw_aims, self.draw_write, self.draw_history, self.draw_text,
            self.draw_lose, self.draw_without, self.draw_search, self.draw_day, self.draw_last]
        while len(self.calls) < length and sum(len(call) for call in self.calls) < 9000:
            chance.choice(draws)()

    def add(self, call, answer):
        self.calls.append(call)
        self.told.append(answer)

    def model(self, n=99, left_out=()):
        return Model({number: lines for number, (day, lines) in self.known.items()
                      if number <= n and number not in left_out})

    def now_and_then(self):
        return self.chance.random() < 0.08

    def number(self):
        return self.chance.choice(ODD_NUMBERS) if self.now_and_then() else self.chance.randrange(1, self.greatest + 1)

    def some_file(self):
        return self.chance.choice(ODD_NUMBERS) if self.now_and_then() else self.chance.choice(SOME_FILES)

    def place(self):
        places = [(number, at) for number, (day, lines) in self.known.items() for at in range(1, len(lines) + 1)]
        if self.now_and_then() or not places:
            return self.number(), self.chance.choice((*ODD_NUMBERS, 1, 2, 8))
        return self.chance.choice(places)

    def drawn_text(self):
        """A text, what judge answers of it, and the issue's number, day and lines if it's one."""
        number = self.chance.randrange(1, self.greatest + 1)
        day = max(0, number * 10 + self.chance.choice([-15, 0, 0, 0, 0, 0, 0, 0, 15]))
        lines = random_lines(self.chance, number)
        if self.known and self.chance.random() < 0.15:
            number = self.chance.choice(sorted(self.known))
            day, lines = self.known[number]
        kind = self.chance.choice(["good"] * 12 + ["faulty", "check", "count", "no byte"])
        text = issue(number, day, *lines)
        if kind == "faulty":
            faulty, place = marked(self.chance.choice(FAULTY_LINES))
            head = f"gazette {number} of {day}\n" + ended(lines)
            return as_numbers(head + faulty + "\ndrop 1\nclose 0 0"), [1, len(head) + place], None
        if kind == "check":
            head, check = text.rsplit(" ", 1)
            return as_numbers(f"{head} {(int(check) + self.chance.randrange(1, 9973)) % 9973}"), [2], None
        if kind == "count":
            head, count, check = text.rsplit(" ", 2)
            return as_numbers(f"{head} {(int(count) + self.chance.randrange(1, 41)) % 41} {check}"), [2], None
        if kind == "no byte":
            return as_numbers(text) + [self.chance.choice(NO_BYTES)], [-1], None
        return as_numbers(text), [0], (number, day, lines)

    def taken(self, number, day, lines):
        if number in self.known:
            return [number] if self.known[number] == (day, lines) else [-6]
        if any(other_day > day if other < number else other_day < day
               for other, (other_day, other_lines) in self.known.items()):
            return [-7]
        if len(self.known) == 24:
            return [-9]
        self.known[number] = (day, lines)
        return [number]

    def draw_take(self):
        text, judged, parts = self.drawn_text()
        if parts is not None:
            self.add(take(text), self.taken(*parts))
        elif judged[0] == 1:
            self.add(take(text), [-1000 - judged[1]])
        else:
            self.add(take(text), [-2] if judged == [2] else [-1])

    def draw_judge(self):
        text, judged, parts = self.drawn_text()
        self.add(judge(text), judged)

    def draw_overview(self):
        model = self.model()
        self.add(*self.chance.choice([(ISSUES, [0] + model.numbers), (GAPS, [0] + model.gaps()),
                                      (FILES, [0] + sorted(model.files()))]))

    def draw_file(self):
        number = self.some_file()
        right = 1 <= number <= 999
        self.add(file(number), self.model().record(number) if right else [-3])
        self.add(sure(number), [int(self.model().sure(number))] if right else [-3])

    def draw_value(self):
        number, code = self.some_file(), self.chance.choice((*CODES, 9, 100))
        right = 1 <= number <= 999 and 10 <= code <= 99
        self.add(value(number, code), self.model().value(number, code) if right else [-3])

    def draw_then(self):
        number, n = self.some_file(), self.chance.choice((0, 99, self.number()))
        right = 1 <= number <= 999 and 0 <= n <= 99
        self.add(behind(number, n), self.model().record(number, n) if right else [-3])
        self.add(then(number, n), self.model(n).record(number) if right else [-3])

    def draw_line(self):
        place = self.place()
        self.add(line(*place), self.model().line(place))

    def draw_aims(self):
        place = self.place()
        self.add(aims(*place), self.model().aims(place))

    def draw_write(self):
        n = self.number()
        day = self.chance.choice((0, 100000, 100001, -1)) if self.now_and_then() else n * 10
        lines = random_lines(self.chance, max(1, min(n, 99)))
        text, answer = as_numbers(ended(lines)), [0] + as_numbers(issue(n, day, *lines))
        if self.now_and_then():
            text, answer = text + [self.chance.choice(NO_BYTES)], [-1]
        elif self.now_and_then():
            faulty, place = marked(self.chance.choice(FAULTY_LINES))
            text, answer = text + as_numbers(faulty + "\n"), [-1000 - len(text) - place]
        if not (1 <= n <= 99 and 0 <= day <= 100000):
            answer = [-3]
        self.add(write(n, day, text), answer)
        if answer[0] == 0 and self.chance.random() < 0.5:
            self.add(take(answer[1:]), self.taken(n, day, lines))

    def draw_history(self):
        number = self.some_file()
        self.add(history(number), self.model().history(number) if 1 <= number <= 999 else [-3])

    def draw_text(self):
        number = self.number()
        known = number in self.known
        self.add(text_of(number), [0] + as_numbers(issue(number, self.known[number][0], *self.known[number][1]))
                 if known else [-5])

    def draw_lose(self):
        number = self.number()
        known = self.known.pop(number, None) is not None
        self.add(lose(number), [len(self.known)] if known else [-5])

    def draw_without(self):
        numbers = [self.chance.choice(sorted(self.known)) for each in range(self.chance.randrange(4)) if self.known]
        if self.now_and_then():
            numbers.append(self.number())
        if self.now_and_then():
            numbers += numbers[:1] * 24
        right = len(numbers) <= 24 and all(number in self.known for number in numbers)
        before, after = self.model().files(), self.model(left_out=numbers).files()
        changed = [number for number in SOME_FILES if before.get(number) != after.get(number)]
        self.add(without(*numbers), [len(changed)] + changed if right else [-4])

    def draw_search(self):
        code = self.chance.choice((*CODES, *CODES, 9, 100))
        text = as_numbers(self.chance.choice(["a", "b", "c", "", "ab"]))
        if self.now_and_then():
            text.append(self.chance.choice(NO_BYTES))
        right = 10 <= code <= 99
        byte = all(0 <= each <= 255 for each in text)
        self.add(search(code, text), [-3] if not right else self.model().search(code, text) if byte else [-1])

    def draw_day(self):
        number = self.number()
        known = number in self.known
        self.add(day_of(number), [self.known[number][0], len(self.known[number][1])] if known else [-5])

    def draw_last(self):
        self.add(LAST, self.model().last())


def scripts(seed, count):
    chance = random.Random(seed)
    return [Script(chance, chance.choice([3, 6, 9, 60]), 150) for each in range(count)]


def takes(known, numbers):
    return [take(issue(number, known[number][0], *known[number][1])) for number in numbers]


class AgainstTheModel(unittest.TestCase):
    SCRIPTS = scripts(20, 40)

    def test_every_answer(self):
        for script in self.SCRIPTS:
            for call, seen, told in zip(script.calls, run(*script.calls), script.told):
                self.assertEqual(seen, told, call)

    def test_every_call_and_every_refusal_is_drawn(self):
        drawn = {(call[0], told[0] if told[0] > -1000 else -1000)
                 for script in self.SCRIPTS for call, told in zip(script.calls, script.told)}
        for call in range(20):
            self.assertTrue(any(first >= 0 for each, first in drawn if each == call), call)
        for call, refusals in ((0, (-1, -1000, -2, -6, -7, -9)), (1, (-1,)), (4, (-3,)), (5, (-3, -8)), (7, (-3,)),
                               (8, (-3,)), (9, (-3,)), (10, (-5,)), (11, (-5,)), (12, (-3, -1, -1000)), (13, (-3,)),
                               (14, (-5,)), (15, (-5,)), (16, (-4,)), (17, (-3, -1)), (18, (-5,))):
            for refusal in refusals:
                self.assertIn((call, refusal), drawn)
        for first in range(5):
            self.assertIn((10, first), drawn)

    def test_a_second_time_and_what_was_handed_in(self):
        for script in self.SCRIPTS[:10]:
            calls = [number for call in script.calls for number in call]
            kept = list(calls)
            first = answers(calls)
            self.assertEqual(calls, kept)
            answers(ISSUES + take(issue(1, 0, "new 1")))
            self.assertEqual(answers(calls), first)

    def test_refused_calls_can_be_left_out(self):
        for script in self.SCRIPTS:
            done = [(call, told) for call, told in zip(script.calls, script.told) if told[0] >= 0]
            self.assertEqual(run(*[call for call, told in done]), [told for call, told in done])


class TheirEnds(unittest.TestCase):
    SCRIPTS = scripts(21, 30)

    def test_point_1_order_and_repeats_make_no_difference(self):
        chance = random.Random(1)
        for script in self.SCRIPTS:
            questions = all_questions(files=SOME_FILES, codes=(10, 99), numbers=range(0, 31, 3), lines=range(1, 4))
            first = run(*script.calls, *questions)[-len(questions):]
            numbers = sorted(script.known)
            numbers += chance.sample(numbers, len(numbers) // 3)
            chance.shuffle(numbers)
            told = run(*takes(script.known, numbers), *questions)
            self.assertEqual(told[:len(numbers)], [[number] for number in numbers])
            self.assertEqual(told[len(numbers):], first)

    def test_point_2_a_wrong_byte_is_never_taken(self):
        chance = random.Random(2)
        for script in self.SCRIPTS:
            for number, (day, lines) in sorted(script.known.items())[:4]:
                good = as_numbers(issue(number, day, *lines))
                wrong = []
                for again in range(8):
                    at = chance.randrange(len(good))
                    byte = chance.choice([each for each in range(256) if each != good[at]])
                    wrong.append(good[:at] + [byte] + good[at + 1:])
                    at = chance.choice([each for each in range(len(good) - 1) if good[each] != good[each + 1]])
                    wrong.append(good[:at] + [good[at + 1], good[at]] + good[at + 2:])
                told = run(*script.calls, lose(number), *[take(text) for text in wrong], ISSUES)[len(script.calls):]
                self.assertTrue(all(len(each) == 1 and each[0] < 0 for each in told[1:-1]), told)
                self.assertEqual(told[-1], [0] + [each for each in sorted(script.known) if each != number])

    def test_point_3_stands_just_if_none_that_stands_strikes_it(self):
        for script in self.SCRIPTS:
            corrections = [(number, at) for number, (day, lines) in script.known.items()
                           for at, text in enumerate(lines, start=1) if text.startswith(("fix", "void"))][:100]
            told = run(*script.calls, *[line(*place) for place in corrections],
                       *[aims(*place) for place in corrections])[len(script.calls):]
            for place, stands, aiming in zip(corrections, told, told[len(corrections):]):
                struck = any(script.known[aiming[at]][1][aiming[at + 1] - 1].startswith("void") and aiming[at + 2]
                             for at in range(1, len(aiming), 3))
                self.assertEqual(stands, [4] if struck else [3], place)

    def test_point_4_missing_issues_change_nothing_that_is_sure(self):
        chance = random.Random(4)
        seen_sure = 0
        asked = [question for each in SOME_FILES for question in (sure(each), file(each))]
        for script in self.SCRIPTS:
            gaps = Model({number: lines for number, (day, lines) in script.known.items()}).gaps()
            fillers = []
            for gap in gaps[:24 - len(script.known)]:
                day = max((script.known[number][0] for number in script.known if number < gap), default=0)
                fillers.append(take(issue(gap, day, *random_lines(chance, gap))))
            told = run(*script.calls, *asked, *fillers, *asked)[len(script.calls):]
            self.assertTrue(all(each[0] > 0 for each in told[len(asked):-len(asked)]), told)
            for at in range(0, len(asked), 2):
                if gaps and told[at] == [1]:
                    seen_sure += 1
                    self.assertEqual(told[at + 1], told[at + 1 - len(asked)])
        self.assertGreater(seen_sure, 10)


if __name__ == "__main__":
    unittest.main()
