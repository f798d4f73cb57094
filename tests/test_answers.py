"""The interface: how calls and answers stand one behind another."""

import ast
import contextlib
import io
import pathlib
import sys
import unittest

import issuerolls.gazette
from issuerolls.gazette import answers
from tests.support import (FILES, GAPS, ISSUES, LAST, aims, as_numbers, behind, day_of, file, history, issue, judge,
                           line, lose, search, sure, take, text_of, then, value, without, write)

PACKAGE = pathlib.Path(issuerolls.gazette.__file__).parent


class WatchedList(list):
    """Tells of every change, one that is undone later too."""

    def changed(self, *arguments, **keywords):
        raise AssertionError("what is handed in was changed")

    __setitem__ = __delitem__ = __iadd__ = __imul__ = changed
    append = extend = insert = pop = remove = clear = sort = reverse = changed


def every_call():
    first = issue(1, 5, "new 1 10 ab", "new 2 11 c")
    second = issue(3, 6, "fix 1 1 with new 1 10 x", "set 2 12 y")
    parts = [take(first), take(second), judge(first), judge([300]), judge("x"), take(first), ISSUES, GAPS, FILES,
             file(1), value(1, 10), value(1, 11), sure(1), behind(1, 1), then(1, 1), file(0),
             line(1, 1), line(1, 2), line(3, 1), line(3, 3), aims(1, 1), write(1, 0, ""), write(1, 0, "drop"),
             history(2), text_of(3), without(3), without(), without(2), search(12, "y"), search(10, ""),
             search(10, [300]), day_of(3), LAST, lose(3), LAST, text_of(3)]
    return [number for part in parts for number in part]


EVERY_ANSWER = [
    1, 1, 1, 3, 1, 0, 1, -1, 2, 1, 0, 1, 1, 3, 0, 1, 3, 2, 0, 2, 3, 0, 1, 2,
    5, 1, 1, 10, 1, 120, 2, 0, 120, 1, -8, 1, 0, 5, 1, 1, 10, 1, 120, 6, 1, 1, 10, 2, 97, 98, 1, -3,
    13, 1, 3, 1, 110, 101, 119, 32, 49, 32, 49, 48, 32, 120, 11, 0, 110, 101, 119, 32, 50, 32, 49, 49, 32, 99,
    1, 3, 1, -5, 4, 0, 3, 1, 1,
    28, 0, 103, 97, 122, 101, 116, 116, 101, 32, 49, 32, 111, 102, 32, 48, 10,
    99, 108, 111, 115, 101, 32, 48, 32, 55, 55, 53, 48, 1, -1004,
    5, 0, 1, 2, 3, 2, 63, 0, *as_numbers(issue(3, 6, "fix 1 1 with new 1 10 x", "set 2 12 y")),
    3, 2, 1, 2, 1, 0, 1, -4, 2, 0, 2, 1, 0, 1, -1, 2, 6, 2, 3, 1, 3, 1, 1, 1, 1, 0, 1, -5]


class Answers(unittest.TestCase):
    def test_one_call(self):
        self.assertEqual(answers([2]), [1, 0])
        self.assertEqual(answers([3]), [1, 0])
        self.assertEqual(answers([6]), [1, 0])
        self.assertEqual(answers([4, 1]), [1, 0])
        self.assertEqual(answers([5, 1, 10]), [1, -8])
        self.assertEqual(answers([7, 1]), [1, 1])
        self.assertEqual(answers([8, 1, 0]), [1, 0])
        self.assertEqual(answers([9, 1, 0]), [1, 0])
        self.assertEqual(answers([10, 1, 1]), [1, -5])
        self.assertEqual(answers([11, 1, 1]), [1, -5])
        self.assertEqual(answers([12, 0, 0, 0]), [1, -3])
        self.assertEqual(answers([13, 1]), [1, 0])
        self.assertEqual(answers([14, 1]), [1, -5])
        self.assertEqual(answers([15, 1]), [1, -5])
        self.assertEqual(answers([16, 0]), [1, 0])
        self.assertEqual(answers([17, 10, 0]), [1, 0])
        self.assertEqual(answers([18, 1]), [1, -5])
        self.assertEqual(answers([19]), [1, 0])
        self.assertEqual(answers([0, 0]), [1, -1000])
        self.assertEqual(answers([1, 0]), [2, 1, 0])

    def test_several_calls_in_one_list(self):
        self.assertEqual(answers(every_call()), EVERY_ANSWER)

    def test_a_text_with_numbers_that_look_like_calls(self):
        self.assertEqual(answers([1, 3, 0, 1, 2, 1, 0, 2]), [2, 1, 0, 2, 1, 0, 1, 0])
        self.assertEqual(answers([12, 1, 0, 2, 19, 19, 19]), [1, -1000, 1, 0])
        self.assertEqual(answers([17, 10, 3, 2, 3, 6, 16, 2, 2, 19, 2]), [1, 0, 1, -4, 1, 0])

    def test_the_list_handed_in_is_as_it_was(self):
        calls = every_call()
        answers(calls)
        self.assertEqual(calls, every_call())

    def test_the_list_handed_in_is_never_changed(self):
        self.assertEqual(answers(WatchedList(every_call())), EVERY_ANSWER)

    def test_a_second_time_begins_with_no_known_issues(self):
        self.assertEqual(answers(take(issue(1, 5, "new 1")) + FILES), [1, 1, 2, 0, 1])
        self.assertEqual(answers(ISSUES + FILES + GAPS), [1, 0, 1, 0, 1, 0])
        self.assertEqual(answers(take(issue(1, 6, "new 2")) + FILES), [1, 1, 2, 0, 2])

    def test_what_is_given_back_is_not_kept(self):
        first = answers(every_call())
        first.append(7)
        first[0] = 99
        self.assertEqual(answers(every_call()), EVERY_ANSWER)

    def test_a_list_of_plain_whole_numbers(self):
        told = answers(every_call())
        self.assertIs(type(told), list)
        self.assertEqual({type(number) for number in told}, {int})

    def test_400_calls(self):
        # Long lists are compared by == alone: a difference of such lists takes long to be shown.
        self.assertTrue(answers([2] * 400) == [1, 0] * 400)
        takes = take(issue(1, 5, "new 1 10 ab"))
        self.assertTrue(answers(takes + [4, 1] * 399) == [1, 1] + [6, 1, 1, 10, 2, 97, 98] * 399)

    def test_a_text_of_2000_numbers(self):
        fields = " ".join(f"{code} abcdefghijkl" for code in range(10, 100))
        head = issue(1, 5, "new 1 " + fields)
        self.assertEqual(answers(take(head))[:2], [1, 1])
        self.assertEqual(answers(judge([32] * 2000)), [2, 1, 0])
        self.assertEqual(answers(judge("gazette 1 of 5\n" + "drop 999\n" * 40 + "x" * 1625)), [2, 1, 375])

    def test_the_longest_list(self):
        text = as_numbers("gazette 1 of 5\n" + "new 1 10 a\n" * 40 + "close 40 ")
        calls = judge(text + [48] * (1990 - len(text))) * 8
        self.assertLessEqual(len(calls), 16000)
        self.assertEqual(answers(calls), [2, 1, len(text)] * 8)


class Surroundings(unittest.TestCase):
    def test_nothing_is_printed_or_read(self):
        shown = io.StringIO()
        stdin = sys.stdin
        sys.stdin = None
        try:
            with contextlib.redirect_stdout(shown), contextlib.redirect_stderr(shown):
                answers(every_call())
        finally:
            sys.stdin = stdin
        self.assertEqual(shown.getvalue(), "")

    def test_nothing_is_imported_while_it_answers(self):
        before = set(sys.modules)
        answers(every_call())
        self.assertEqual(set(sys.modules), before)

    def test_the_package_draws_from_itself_alone(self):
        for path in sorted(PACKAGE.glob("*.py")):
            for node in ast.walk(ast.parse(path.read_text())):
                self.assertNotIsInstance(node, ast.Import, path)
                if isinstance(node, ast.ImportFrom):
                    self.assertTrue(node.module.startswith("issuerolls."), path)
                    self.assertEqual(node.level, 0, path)


if __name__ == "__main__":
    unittest.main()
