"""Calls 0 and 1: when a text is an issue, and the place of its fault; call 12 where it asks the same of lines."""

import itertools
import unittest

from tests.support import ISSUES, closed, ended, issue, judge, last, marked, run, take, write


def issue_of_check(check):
    for signs in itertools.product("abcdefghijklmnopqrstuvwxyz", repeat=4):
        text = issue(1, 0, "set 1 10 " + "".join(signs))
        if text.endswith(f" {check}"):
            return text
    raise LookupError(check)


class GoodTexts(unittest.TestCase):
    def assert_issue(self, text, number):
        self.assertEqual(run(judge(text), take(text), ISSUES), [[0], [number], [0, number]], text)

    def test_the_check_as_reckoned_by_hand(self):
        # "gazette 1 of 0\n": 103*1 + 97*2 + 122*3 + 101*4 + 116*5 + 116*6 + 101*7 + 32*8
        # + 49*9 + 32*10 + 111*11 + 102*12 + 32*13 + 48*14 + 10*15 = 7750
        self.assert_issue("gazette 1 of 0\nclose 0 7750", 1)

    def test_the_remainder_by_9973(self):
        head = "gazette 1 of 0\ndrop 1\n"
        whole = sum(place * ord(sign) for place, sign in enumerate(head, start=1))
        self.assertGreater(whole, 9973)
        self.assert_issue(f"{head}close 1 {whole - 9973}", 1)

    def test_every_kind_of_line(self):
        for line in ("new 7", "new 7 10 a", "new 7 10 a 11 b 99 c", "set 7 10 a", "drop 7",
                     "void 4 1", "fix 4 1 with new 7", "fix 4 1 with new 7 10 a 12 b",
                     "fix 4 1 with set 7 10 a", "fix 4 1 with drop 7"):
            self.assert_issue(issue(5, 3, line), 5)
            self.assert_issue(issue(5, 3, "drop 1", line, line), 5)

    def test_edges_of_ranges(self):
        self.assert_issue(issue(1, 0), 1)
        self.assert_issue(issue(99, 100000), 99)
        self.assert_issue(issue(5, 3, "drop 1", "drop 999"), 5)
        self.assert_issue(issue(5, 3, "set 1 10 a", "set 1 99 abcdefghijkl"), 5)
        self.assert_issue(issue(5, 3, "new 1 " + " ".join(f"{code} v" for code in range(10, 100))), 5)

    def test_values_of_all_allowed_bytes(self):
        self.assert_issue(issue(5, 3, "new 1 10 abcdefghijkl 11 mnopqrstuvwx 12 yz0123456789"), 5)

    def test_values_that_look_like_other_words(self):
        self.assert_issue(issue(5, 3, "set 1 10 close", "new 1 10 close 11 007 12 1234567", "set 1 10 with"), 5)

    def test_40_lines(self):
        self.assert_issue(issue(5, 3, *["drop 1"] * 40), 5)

    def test_places_that_can_stand(self):
        self.assert_issue(issue(5, 3, "drop 1", "void 5 1"), 5)
        self.assert_issue(issue(5, 3, "void 4 40", "void 1 1", "fix 5 2 with drop 1", "void 5 3"), 5)
        self.assert_issue(issue(5, 3, *["drop 1"] * 39, "void 5 39"), 5)

    def test_the_least_and_the_greatest_check(self):
        for check in (0, 9972):
            self.assert_issue(issue_of_check(check), 1)


class Faults(unittest.TestCase):
    def assert_fault(self, marked_text):
        text, place = marked(marked_text)
        told = run(judge(text), take(text), ISSUES)
        self.assertEqual(told, [[1, place], [-1000 - place], [0]], marked_text)

    def assert_line_fault(self, marked_line, before=(), number=5):
        """A line with a mark, within an issue that has the right count and check else, and among lines alone."""
        line, place = marked(marked_line)
        lines = [*before, line, "drop 1"]
        place += len(ended(before))
        at = len(f"gazette {number} of 3\n") + place
        text = issue(number, 3, *lines)
        self.assert_fault(text[:at] + "|" + text[at:])
        self.assertEqual(last(write(number, 3, ended(lines))), [-1000 - place], marked_line)

    def test_the_empty_text(self):
        self.assert_fault("|")

    def test_words_missing_at_the_end(self):
        whole = issue(5, 3, "new 7 10 abc 11 d", "fix 4 2 with set 3 10 q", "void 4 1", "drop 1")
        words = whole.replace("\n", " \n ").split(" ")
        for count in range(1, len(words)):
            cut = " ".join(words[:count]).replace(" \n ", "\n").replace(" \n", "\n")
            self.assertTrue(whole.startswith(cut))
            self.assert_fault(cut + "|")

    def test_each_word_wrong(self):
        whole = issue(5, 3, "new 7 10 abc 11 d", "fix 4 2 with set 3 10 q", "void 4 1", "drop 1")
        start = 0
        for place, sign in enumerate(whole + " "):
            if sign in " \n":
                self.assert_fault(whole[:start] + "|X" + whole[place:])
                self.assert_fault(whole[:start] + "|" + whole[start:place] + "?" + whole[place:])
                start = place + 1

    def test_a_blank_or_a_line_end_at_the_beginning(self):
        self.assert_fault("| " + issue(5, 3))
        self.assert_fault("|\n" + issue(5, 3))
        self.assert_fault("| ")
        self.assert_fault("|\n")

    def test_a_blank_or_a_line_end_at_the_end(self):
        # A blank makes the empty word behind it; a line's end is itself a word too many.
        self.assert_fault(issue(5, 3) + " |")
        self.assert_fault(issue(5, 3) + "|\n")
        self.assert_fault("gazette |")
        self.assert_fault("gazette 5 of 3\n|")
        self.assert_fault("gazette 5 of 3 |")

    def test_two_blanks(self):
        whole = issue(5, 3, "new 7 10 abc", "fix 4 2 with set 3 10 q")
        for place, sign in enumerate(whole):
            if sign == " ":
                self.assert_fault(whole[:place] + " | " + whole[place + 1:])

    def test_a_blank_beside_a_line_end(self):
        whole = issue(5, 3, "new 7 10 abc", "fix 4 2 with set 3 10 q", "void 4 1")
        for place, sign in enumerate(whole):
            if sign == "\n":
                self.assert_fault(whole[:place] + " |\n" + whole[place + 1:])
                self.assert_fault(whole[:place] + "\n| " + whole[place + 1:])

    def test_two_line_ends(self):
        whole = issue(5, 3, "new 7 10 abc", "void 4 1")
        for place, sign in enumerate(whole):
            if sign == "\n":
                self.assert_fault(whole[:place] + "\n|\n" + whole[place + 1:])

    def test_a_line_end_for_a_blank_and_a_blank_for_a_line_end(self):
        self.assert_fault("gazette|\n5 of 3\nclose 0 0")
        self.assert_fault("gazette 5 of|\n3\nclose 0 0")
        self.assert_fault("gazette 5 of 3 |close 0 0")
        self.assert_fault("gazette 5 of 3\ndrop 1 |close 1 0")
        self.assert_fault("gazette 5 of 3\nclose|\n0 0")
        self.assert_fault("gazette 5 of 3\nclose 0|\n0")
        self.assert_line_fault("drop|\n1")
        self.assert_line_fault("set 1 10|\na")
        self.assert_line_fault("new 1 10|\na")
        self.assert_line_fault("void 4|\n1")

    def test_words_behind_the_check(self):
        self.assert_fault(issue(5, 3) + " |x")
        self.assert_fault(issue(5, 3) + " |0")
        self.assert_fault(issue(5, 3) + "|\ndrop 1")
        self.assert_fault(issue(5, 3) + "|\n" + issue(5, 3))

    def test_numbers_in_a_wrong_form(self):
        for wrong in ("05", "00", "+5", "-5", "5.", "0x5", "1_0", "a", "\t5", "5\r", "1234567", "0000005",
                      "\xb2", "\x00"):
            self.assert_fault(f"gazette |{wrong} of 3\nclose 0 0")
            self.assert_fault(f"gazette 5 of |{wrong}\nclose 0 0")
            self.assert_fault(f"gazette 5 of 3\nclose |{wrong} 0")
            self.assert_fault(f"gazette 5 of 3\nclose 0 |{wrong}")
            self.assert_line_fault(f"drop |{wrong}")
            self.assert_line_fault(f"set 1 |{wrong} a")
            self.assert_line_fault(f"new 1 |{wrong} a")
            self.assert_line_fault(f"void |{wrong} 1")
            self.assert_line_fault(f"void 4 |{wrong}")

    def test_numbers_out_of_range(self):
        for wrong in ("0", "100", "999999"):
            self.assert_fault(f"gazette |{wrong} of 3\nclose 0 0")
        for wrong in ("100001", "999999"):
            self.assert_fault(f"gazette 5 of |{wrong}\nclose 0 0")
        for wrong in ("41", "999999"):
            self.assert_fault(f"gazette 5 of 3\nclose |{wrong} 0")
        for wrong in ("9973", "99999"):
            self.assert_fault(f"gazette 5 of 3\nclose 0 |{wrong}")
        for wrong in ("0", "1000"):
            for line in ("drop |{}", "set |{} 10 a", "new |{}", "fix 4 1 with new |{} 10 a"):
                self.assert_line_fault(line.format(wrong))
        for wrong in ("0", "9", "100"):
            for line in ("set 1 |{} a", "new 1 |{} a", "new 1 10 a |{} a", "fix 4 1 with set 1 |{} a"):
                self.assert_line_fault(line.format(wrong))

    def test_values_that_are_none(self):
        for wrong in ("abcdefghijklm", "A", "aB", "a-b", "a_", "\xe4", "a\t", "`", "{", "/", ":", "\x00"):
            for line in ("set 1 10 |{}", "new 1 10 |{}", "new 1 10 a 11 |{}", "fix 4 1 with set 1 10 |{}"):
                self.assert_line_fault(line.format(wrong))

    def test_codes_that_do_not_rise(self):
        self.assert_line_fault("new 1 10 a |10 b")
        self.assert_line_fault("new 1 11 a |10 b")
        self.assert_line_fault("new 1 10 a 20 b |15 c")
        self.assert_line_fault("new 1 99 a |99 b")
        self.assert_line_fault("fix 4 1 with new 1 11 a |11 b")

    def test_places_that_are_not_earlier(self):
        self.assert_line_fault("void |6 1")
        self.assert_line_fault("fix |6 1 with drop 1")
        self.assert_line_fault("void |0 1")
        self.assert_line_fault("void 4 |0")
        self.assert_line_fault("void 4 |41")
        self.assert_line_fault("void 5 |1")
        self.assert_line_fault("fix 5 |1 with drop 1")
        self.assert_line_fault("void 5 |2", before=("drop 1",))
        self.assert_line_fault("void 5 |3", before=("drop 1",))
        self.assert_line_fault("void 5 |0", before=("drop 1",))
        self.assert_line_fault("void 1 |1", number=1)
        self.assert_line_fault("void |100 1", number=99)

    def test_lines_with_words_too_few_or_too_many(self):
        for line in ("drop|\n", "drop 1 |1", "set|\n", "set 1|\n", "set 1 10|\n", "set 1 10 a |11", "new|\n",
                     "new 1 10|\n", "new 1 10 a |b", "new 1 |a", "void|\n", "void 4|\n", "void 4 1 |1",
                     "void 4 1 |with drop 1", "fix|\n", "fix 4|\n", "fix 4 1|\n", "fix 4 1 with|\n",
                     "fix 4 1 |drop 1", "fix 4 1 with |void 3 1", "fix 4 1 with |fix 3 1 with drop 1"):
            self.assert_line_fault(line)

    def test_words_that_begin_no_line(self):
        for line in ("|New 1", "|with drop 1", "|gazette 5 of 3", "|12", "|newer 1", "|ne 1", "|of"):
            self.assert_line_fault(line)

    def test_a_41st_line(self):
        for line in ("drop 1", "new 1", "void 4 1", "fix 4 1 with drop 1"):
            head = "gazette 5 of 3\n" + "drop 1\n" * 40
            self.assert_fault(f"{head}|{line}\nclose 40 0")

    def test_close_too_early(self):
        self.assert_fault("|close 0 0")
        self.assert_fault("gazette 5 |close 0 0")
        self.assert_fault("gazette 5 of 3\nclose 0 |drop 1\nclose 0 0")

    def test_the_first_fault_is_told(self):
        self.assert_fault("gazette |0 of x\nfoo\nclose 99 99999")

    def test_a_fault_comes_before_a_wrong_count_or_check(self):
        self.assert_fault("gazette 5 of 3\nclose 7 |9973")
        self.assert_fault("gazette 5 of 3\nclose 7 0 |x")


class WrongCountOrCheck(unittest.TestCase):
    def assert_wrong(self, text):
        self.assertEqual(run(judge(text), take(text), ISSUES), [[2], [-2], [0]], text)

    def test_a_wrong_count(self):
        head = "gazette 5 of 3\ndrop 1\ndrop 2\n"
        for count in (0, 1, 3, 40):
            self.assert_wrong(closed(head, count))
        self.assert_wrong(closed("gazette 5 of 3\n", 1))

    def test_a_wrong_check(self):
        head = "gazette 1 of 0\n"
        for check in (0, 1, 7749, 7751, 9972):
            self.assert_wrong(f"{head}close 0 {check}")

    def test_a_check_of_other_bytes(self):
        # Neither the close, nor the last line's end alone, is counted otherwise than told.
        head = "gazette 1 of 0\n"
        for wrong_head in (head + "close", head[:-1], " " + head):
            self.assert_wrong(head + "close 0 " + closed(wrong_head, 0).rsplit(" ", 1)[1])

    def test_both_wrong(self):
        self.assert_wrong("gazette 1 of 0\nclose 1 7751")


class NoBytes(unittest.TestCase):
    def test_a_number_that_is_no_byte(self):
        good = list(issue(5, 3).encode())
        for number in (-1, 256, -9223372036854775808, 9223372036854775807):
            for text in ([number], good + [number], good[:4] + [number] + good[5:], [number] + good):
                self.assertEqual(run(judge(text), take(text), ISSUES), [[-1], [-1], [0]])

    def test_it_comes_ahead_of_any_fault(self):
        self.assertEqual(run(judge([32, 32, 256]), take([0, -1])), [[-1], [-1]])
        wrong_check = list(b"gazette 1 of 0\nclose 0 7751") + [300]
        self.assertEqual(run(judge(wrong_check), take(wrong_check)), [[-1], [-1]])

    def test_0_and_255_are_bytes(self):
        self.assertEqual(run(judge([0]), take([255])), [[1, 0], [-1000]])

    def test_it_comes_ahead_of_the_refusals_of_take(self):
        self.assertEqual(last(take(issue(5, 3)), take(list(issue(5, 4).encode()) + [256])), [-1])


class JudgeChangesNothing(unittest.TestCase):
    def test_a_judged_issue_is_not_known(self):
        self.assertEqual(run(judge(issue(2, 3)), ISSUES, [3]), [[0], [0], [0]])

    def test_judge_asks_the_text_alone(self):
        taken = [take(issue(5, 3))]
        self.assertEqual(last(*taken, judge(issue(5, 4))), [0])
        self.assertEqual(last(*taken, judge(issue(6, 0))), [0])


if __name__ == "__main__":
    unittest.main()
