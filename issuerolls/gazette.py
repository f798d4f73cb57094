"""The calls on a gazette, and their answers."""

from issuerolls.gaps import gaps_of, is_sure
from issuerolls.reading import GREATEST_ISSUE, WrongClose, read_issue
from issuerolls.rolls import files_behind, issues_up_to, record_of
from issuerolls.words import Fault

OUT_OF_RANGE = -3
NO_BYTE = -1
FAULT = -1000
WRONG_COUNT_OR_CHECK = -2
OTHER_TEXT = -6
DAYS_OUT_OF_ORDER = -7
NO_FIELD = -8
TOO_MANY_ISSUES = -9

MOST_ISSUES = 24

# For each call the ranges of its whole numbers, and so how many it has.
RANGES = {
    0: (),
    1: (),
    2: (),
    3: (),
    4: ((1, 999),),
    5: ((1, 999), (10, 99)),
    6: (),
    7: ((1, 999),),
    8: ((1, 999), (0, 99)),
    9: ((1, 999), (0, 99)),
}

CALLS_WITH_TEXT = (0, 1)


def known_issues(known):
    return issues_up_to(known, GREATEST_ISSUE)


def days_clash(known, issue):
    for other in known_issues(known):
        if other.number < issue.number and other.day > issue.day:
            return True
        if other.number > issue.number and other.day < issue.day:
            return True
    return False


def add_issue(known, issue):
    number = issue.number
    if number in known:
        return [number] if known[number].text == issue.text else [OTHER_TEXT]
    if days_clash(known, issue):
        return [DAYS_OUT_OF_ORDER]
    if len(known) >= MOST_ISSUES:
        return [TOO_MANY_ISSUES]
    known[number] = issue
    return [number]


def take(known, text):
    try:
        issue = read_issue(text)
    except Fault as fault:
        return [FAULT - fault.place]
    except WrongClose:
        return [WRONG_COUNT_OR_CHECK]
    return add_issue(known, issue)


def judge(text):
    try:
        read_issue(text)
    except Fault as fault:
        return [1, fault.place]
    except WrongClose:
        return [2]
    return [0]


def all_files(known):
    return files_behind(known_issues(known), GREATEST_ISSUE)


def tell_value(known, file, code):
    fields = all_files(known).get(file, {})
    if code not in fields:
        return [NO_FIELD]
    return [0] + fields[code]


def tell_sure(known, file):
    return [1] if is_sure(known_issues(known), file) else [0]


def tell_behind(known, file, number):
    return record_of(files_behind(known_issues(known), number), file)


def tell_then(known, file, number):
    return record_of(files_behind(issues_up_to(known, number), number), file)


def answer_about_file(known, call, numbers):
    file = numbers[0]
    if call == 4:
        return record_of(all_files(known), file)
    if call == 5:
        return tell_value(known, file, numbers[1])
    if call == 7:
        return tell_sure(known, file)
    if call == 8:
        return tell_behind(known, file, numbers[1])
    return tell_then(known, file, numbers[1])


def answer(known, call, numbers, text):
    for number, least_and_greatest in zip(numbers, RANGES[call]):
        if not least_and_greatest[0] <= number <= least_and_greatest[1]:
            return [OUT_OF_RANGE]
    if any([not 0 <= byte <= 255 for byte in text]):
        return [NO_BYTE]
    if call == 0:
        return take(known, text)
    if call == 1:
        return judge(text)
    if call == 2:
        return [0] + sorted(known)
    if call == 3:
        return [0] + gaps_of(known_issues(known))
    if call == 6:
        return [0] + sorted(all_files(known))
    return answer_about_file(known, call, numbers)


# For each call, in order: how many numbers are answered, and these.
def answers(calls):
    known = {}
    told = []
    at = 0
    while at < len(calls):
        call = calls[at]
        behind_numbers = at + 1 + len(RANGES[call])
        numbers = calls[at + 1:behind_numbers]
        text = []
        at = behind_numbers
        if call in CALLS_WITH_TEXT:
            text = calls[at + 1:at + 1 + calls[at]]
            at += 1 + len(text)
        answered = answer(known, call, numbers, text)
        told.append(len(answered))
        told.extend(answered)
    return told
