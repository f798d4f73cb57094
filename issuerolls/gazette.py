"""The calls on a gazette, and their answers."""

from issuerolls.gaps import gaps_of
from issuerolls.reading import WrongClose, read_issue
from issuerolls.telling import (tell_aims, tell_behind, tell_files, tell_history, tell_last, tell_line, tell_record,
                                tell_search, tell_sure, tell_then, tell_value, tell_without)
from issuerolls.words import Fault
from issuerolls.writing import written_issue

OUT_OF_RANGE = -3
NO_BYTE = -1
NOT_KNOWN = -5
FAULT = -1000
WRONG_COUNT_OR_CHECK = -2
WRONG_ISSUES = -4
OTHER_TEXT = -6
DAYS_OUT_OF_ORDER = -7
TOO_MANY_ISSUES = -9

MOST_ISSUES = 24

# For each call the ranges of its whole numbers, and so how many it has. The number of an
# issue or of a line has no range: it is known or not.
RANGES = {
    0: (),
    1: (),
    2: (),
    3: (),
    4: ((1, 999),),
    5: ((1, 999), (10, 99)),
    6: (),
    7: ((1, 999),),
    8: ((1, 999), (0, 99)),
    9: ((1, 999), (0, 99)),
    10: (None, None),
    11: (None, None),
    12: ((1, 99), (0, 100000)),
    13: ((1, 999),),
    14: (None,),
    15: (None,),
    16: (),
    17: ((10, 99),),
    18: (None,),
    19: (),
}

CALLS_WITH_BYTES = (0, 1, 12, 17)
CALLS_WITH_LIST = (0, 1, 12, 16, 17)
CALLS_ABOUT_FILE = (4, 5, 7, 8, 9, 13)
CALLS_ABOUT_ISSUE = (10, 11, 14, 15, 18)
CALLS_ABOUT_LINE = (10, 11)


# In rising order, however they came.
def known_issues(known):
    return [known[number] for number in sorted(known)]


def days_clash(known, issue):
    for other in known_issues(known):
        if other.number < issue.number and other.day > issue.day:
            return True
        if other.number > issue.number and other.day < issue.day:
            return True
    return False


def add_issue(known, issue):
    number = issue.number
    if number in known:
        return [number] if known[number].text == issue.text else [OTHER_TEXT]
    if days_clash(known, issue):
        return [DAYS_OUT_OF_ORDER]
    if len(known) >= MOST_ISSUES:
        return [TOO_MANY_ISSUES]
    known[number] = issue
    return [number]


def take(known, text):
    try:
        issue = read_issue(text)
    except Fault as fault:
        return [FAULT - fault.place]
    except WrongClose:
        return [WRONG_COUNT_OR_CHECK]
    return add_issue(known, issue)


def judge(text):
    try:
        read_issue(text)
    except Fault as fault:
        return [1, fault.place]
    except WrongClose:
        return [2]
    return [0]


def write(number, day, lines_text):
    try:
        text = written_issue(number, day, lines_text)
    except Fault as fault:
        return [FAULT - fault.place]
    return [0] + text


def lose(known, number):
    known.pop(number)
    return [len(known)]


def without(known, numbers):
    if len(numbers) > MOST_ISSUES or any([number not in known for number in numbers]):
        return [WRONG_ISSUES]
    return tell_without(known_issues(known), numbers)


def answer_about_file(issues, call, numbers):
    file = numbers[0]
    if call == 4:
        return tell_record(issues, file)
    if call == 5:
        return tell_value(issues, file, numbers[1])
    if call == 7:
        return tell_sure(issues, file)
    if call == 8:
        return tell_behind(issues, file, numbers[1])
    if call == 9:
        return tell_then(issues, file, numbers[1])
    return tell_history(issues, file)


def answer_about_line(known, call, number, line_number):
    if not 1 <= line_number <= len(known[number].lines):
        return [NOT_KNOWN]
    if call == 10:
        return tell_line(known_issues(known), (number, line_number))
    return tell_aims(known_issues(known), (number, line_number))


def answer_about_issue(known, call, numbers):
    number = numbers[0]
    if number not in known:
        return [NOT_KNOWN]
    issue = known[number]
    if call in CALLS_ABOUT_LINE:
        return answer_about_line(known, call, number, numbers[1])
    if call == 14:
        return [0] + issue.text
    if call == 15:
        return lose(known, number)
    return [issue.day, len(issue.lines)]


def answer_with_list(known, call, numbers, listed):
    if call == 0:
        return take(known, listed)
    if call == 1:
        return judge(listed)
    if call == 12:
        return write(numbers[0], numbers[1], listed)
    if call == 16:
        return without(known, listed)
    return tell_search(known_issues(known), numbers[0], listed)


def answer_about_all(issues, call):
    if call == 2:
        return [0] + [issue.number for issue in issues]
    if call == 3:
        return [0] + gaps_of(issues)
    if call == 6:
        return tell_files(issues)
    return tell_last(issues)


def out_of_range(call, numbers):
    for number, bounds in zip(numbers, RANGES[call]):
        if bounds is not None and not bounds[0] <= number <= bounds[1]:
            return True
    return False


def answer(known, call, numbers, listed):
    if out_of_range(call, numbers):
        return [OUT_OF_RANGE]
    if call in CALLS_WITH_BYTES and any([not 0 <= byte <= 255 for byte in listed]):
        return [NO_BYTE]
    if call in CALLS_WITH_LIST:
        return answer_with_list(known, call, numbers, listed)
    if call in CALLS_ABOUT_ISSUE:
        return answer_about_issue(known, call, numbers)
    if call in CALLS_ABOUT_FILE:
        return answer_about_file(known_issues(known), call, numbers)
    return answer_about_all(known_issues(known), call)


# For each call, in order: how many numbers are answered, and these.
def answers(calls):
    known = {}
    told = []
    at = 0
    while at < len(calls):
        call = calls[at]
        behind_numbers = at + 1 + len(RANGES[call])
        numbers = calls[at + 1:behind_numbers]
        listed = []
        at = behind_numbers
        if call in CALLS_WITH_LIST:
            listed = calls[at + 1:at + 1 + calls[at]]
            at += 1 + len(listed)
        answered = answer(known, call, numbers, listed)
        told.append(len(answered))
        told.extend(answered)
    return told
