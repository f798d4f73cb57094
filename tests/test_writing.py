"""Call 12: the text of an issue from its number, its day and its lines."""

import unittest

from tests.support import (ISSUES, all_questions, as_numbers, day_of, ended, issue, judge, last, lose, marked, run,
                           take, taken, text_of, write)

LEAST = -9223372036854775808
GREATEST = 9223372036854775807


class Written(unittest.TestCase):
    def assert_written(self, n, day, *lines):
        """It is answered as told, is an issue, and call 0 takes it as it is."""
        text = as_numbers(issue(n, day, *lines))
        told = run(write(n, day, ended(lines)), judge(text), take(text), text_of(n), day_of(n))
        self.assertEqual(told, [[0] + text, [0], [n], [0] + text, [day, len(lines)]], lines)

    def test_no_lines_number_by_number(self):
        # "gazette 1 of 0\n" has the check number 7750.
        self.assertEqual(last(write(1, 0, "")), [
            0, 103, 97, 122, 101, 116, 116, 101, 32, 49, 32, 111, 102, 32, 48, 10,
            99, 108, 111, 115, 101, 32, 48, 32, 55, 55, 53, 48])

    def test_a_line_number_by_number(self):
        # "drop 1\n" behind it adds 100*16 + 114*17 + 111*18 + 112*19 + 32*20 + 49*21 + 10*22 = 9553;
        # 17303 less 9973 is 7330.
        self.assertEqual(last(write(1, 0, "drop 1\n")), [0] + as_numbers("gazette 1 of 0\ndrop 1\nclose 1 7330"))

    def test_no_lines(self):
        self.assert_written(1, 0)
        self.assert_written(99, 100000)
        self.assert_written(10, 10)

    def test_every_kind_of_line(self):
        for text in ("new 7", "new 7 10 a", "new 7 10 a 11 b 99 c", "set 7 10 a", "drop 7", "void 4 1",
                     "fix 4 1 with new 7", "fix 4 1 with new 7 10 a 12 b", "fix 4 1 with set 7 10 a",
                     "fix 4 1 with drop 7", "set 1 10 close"):
            self.assert_written(5, 3, text)
            self.assert_written(5, 3, "drop 1", text, text)

    def test_places_as_they_can_stand_in_this_issue(self):
        self.assert_written(5, 3, "drop 1", "void 5 1", "fix 5 2 with drop 1")
        self.assert_written(1, 3, "drop 1", "void 1 1")
        self.assert_written(99, 3, "void 98 40", "void 99 1")

    def test_40_lines(self):
        self.assert_written(5, 3, *["drop 1"] * 40)
        self.assert_written(5, 3, *["drop 1"] * 39, "void 5 39")

    def test_a_text_of_2000_bytes(self):
        fields = [f" {code} abcdefghijkl" for code in range(10, 100)]
        lines = ["new 1" + "".join(fields), "new 2" + "".join(fields[:33]), "set 1 10 abcdefghij"]
        self.assertEqual(len(ended(lines)), 2000)
        self.assertTrue(last(write(1, 0, ended(lines))) == [0] + as_numbers(issue(1, 0, *lines)))

    def test_it_asks_nothing_of_what_is_known(self):
        calls = taken(["new 1"], ["new 2"])
        self.assertEqual(run(*calls, write(1, 5, "drop 1\n"), write(3, 0, ""), write(2, 20, "new 2\n"))[2:],
                         [[0] + as_numbers(issue(1, 5, "drop 1")), [0] + as_numbers(issue(3, 0)),
                          [0] + as_numbers(issue(2, 20, "new 2"))])

    def test_what_is_written_is_not_known(self):
        questions = all_questions(numbers=range(0, 5))
        calls = taken(["new 1"], None, ["void 1 1"])
        before = run(*calls, *questions)[2:]
        self.assertEqual(run(*calls, write(2, 15, "new 2 10 a\n"), write(2, 15, ""), *questions)[4:], before)

    def test_it_is_taken_in_the_place_of_a_lost_one(self):
        first = last(write(1, 10, "new 1\n"))[1:]
        second = last(write(1, 10, "new 2\n"))[1:]
        told = run(take(first), take(second), lose(1), take(second), take(first), text_of(1))
        self.assertEqual(told, [[1], [-6], [0], [1], [-6], [0] + second])


class Faults(unittest.TestCase):
    def assert_fault(self, marked_text, n=5):
        text, place = marked(marked_text)
        self.assertEqual(run(write(n, 3, text), ISSUES), [[-1000 - place], [0]], marked_text)

    def test_words_missing_at_the_end(self):
        whole = "new 7 10 abc 11 d\nfix 4 2 with set 3 10 q\nvoid 4 1\ndrop 1\n"
        ends = {place for place, sign in enumerate(whole) if sign in " \n"}
        behind_lines = {place + 1 for place, sign in enumerate(whole) if sign == "\n"}
        for end in sorted(ends):
            self.assert_fault(whole[:end] + "|")
        # A blank at the end makes an empty word; a line's end is where the text may end.
        for end in sorted(end + 1 for end in ends):
            if end in behind_lines:
                self.assertEqual(last(write(5, 3, whole[:end]))[0], 0)
            else:
                self.assert_fault(whole[:end] + "|")

    def test_no_line_end_behind_the_last_line(self):
        for text in ("drop 1", "new 1", "new 1 10 a", "set 1 10 a", "void 4 1", "fix 4 1 with drop 1"):
            self.assert_fault(text + "|")
            self.assert_fault("drop 1\n" + text + "|")

    def test_empty_words(self):
        for text in ("| ", "|\n", "| drop 1\n", "|\ndrop 1\n", "drop | 1\n", "drop 1 |\n", "drop 1\n| ", "drop 1\n|\n",
                     "drop 1\n| drop 1\n", "drop 1\n|\ndrop 1\n", "drop 1 |", "drop |", "drop 1\n|  ", "|\n\n", "|  "):
            self.assert_fault(text)

    def test_each_word_wrong(self):
        whole = "new 7 10 abc 11 d\nfix 4 2 with set 3 10 q\nvoid 4 1\ndrop 1\n"
        start = 0
        for place, sign in enumerate(whole):
            if sign in " \n":
                self.assert_fault(whole[:start] + "|X" + whole[place:])
                self.assert_fault(whole[:start] + "|" + whole[start:place] + "?" + whole[place:])
                start = place + 1

    def test_what_stands_around_the_lines_of_an_issue(self):
        self.assert_fault("|gazette 5 of 3\nclose 0 0")
        self.assert_fault("|close 0 0")
        self.assert_fault("|close")
        self.assert_fault("|close\n")
        self.assert_fault("drop 1\n|close 1 0\n")
        self.assert_fault("|" + issue(5, 3))

    def test_numbers_values_and_codes(self):
        for text in ("drop |0\n", "drop |1000\n", "drop |01\n", "drop |1234567\n", "set 1 |9 a\n", "set 1 |100 a\n",
                     "set 1 10 |A\n", "set 1 10 |abcdefghijklm\n", "new 1 10 a |10 b\n", "new 1 11 a |10 b\n",
                     "new 1 10|\n", "drop|\n", "fix 4 1 |drop 1\n", "fix 4 1 with |void 1 1\n", "void 4 1 |1\n"):
            self.assert_fault(text)
            self.assert_fault("drop 1\n" + text)
            self.assert_fault(text + "drop 0\n")

    def test_places_that_are_not_earlier_in_this_issue(self):
        for n in (1, 5, 98):
            self.assert_fault(f"void |{n + 1} 1\n", n)
            self.assert_fault(f"void {n} |1\n", n)
            self.assert_fault(f"drop 1\nvoid {n} |2\n", n)
            self.assert_fault(f"drop 1\nfix {n} |3 with drop 1\n", n)
            self.assert_fault(f"drop 1\nvoid {n} 1\nvoid {n} |0\n", n)
        self.assert_fault("void |5 1\n", 4)
        self.assert_fault("void |100 1\n", 99)
        self.assert_fault("void 4 |41\n")
        self.assert_fault("void |0 1\n")

    def test_a_41st_line(self):
        forty = "drop 1\n" * 40
        for text in ("drop 1\n", "drop 1", "x", "drop 1\ndrop 1\n", " ", "\n", "close 40 0\n"):
            self.assert_fault(forty + "|" + text)
        self.assert_fault("drop 1\n" * 39 + "drop |0\ndrop 1\n")

    def test_the_first_fault_is_told(self):
        self.assert_fault("drop |0\n\nvoid 9 9\n")

    def test_a_fault_changes_nothing(self):
        questions = all_questions(numbers=range(0, 5))
        calls = taken(["new 1"], None, ["void 1 1"])
        before = run(*calls, *questions)[2:]
        self.assertEqual(run(*calls, write(2, 15, "new 2 10 a"), write(0, 15, ""), write(2, 15, [256]),
                             *questions)[5:], before)


class Ranges(unittest.TestCase):
    def test_n(self):
        for n in (0, 100, -1, LEAST, GREATEST):
            self.assertEqual(last(write(n, 0, "")), [-3])

    def test_day(self):
        for day in (-1, 100001, LEAST, GREATEST):
            self.assertEqual(last(write(1, day, "")), [-3])

    def test_edges(self):
        for n in (1, 99):
            for day in (0, 100000):
                self.assertEqual(last(write(n, day, "")), [0] + as_numbers(issue(n, day)))

    def test_no_byte(self):
        for number in (-1, 256, LEAST, GREATEST):
            for text in ([number], as_numbers("drop 1\n") + [number], [number] + as_numbers("drop 1\n")):
                self.assertEqual(last(write(1, 0, text)), [-1])

    def test_0_and_255_are_bytes(self):
        self.assertEqual(run(write(1, 0, [0]), write(1, 0, [255])), [[-1000], [-1000]])

    def test_the_order_of_refusals(self):
        self.assertEqual(last(write(0, 0, [256])), [-3])
        self.assertEqual(last(write(1, 100001, [256])), [-3])
        self.assertEqual(last(write(100, -1, "x")), [-3])
        self.assertEqual(last(write(0, 0, "drop 1")), [-3])
        self.assertEqual(last(write(1, 0, [120, 32, 32, 256])), [-1])
        self.assertEqual(last(write(1, 0, as_numbers("drop 1\n" * 41) + [-1])), [-1])
        self.assertEqual(last(write(1, 0, "drop 1\n" * 41)), [-1280])


if __name__ == "__main__":
    unittest.main()
