"""What the tests share: texts of issues, calls, and answers one by one."""

from issuerolls.gazette import answers


def check_of(head):
    return sum(place * byte for place, byte in enumerate(head.encode("latin-1"), start=1)) % 9973


def closed(head, count):
    """Any text with a count and the right check behind it."""
    return f"{head}close {count} {check_of(head)}"


def issue(number, day, *lines):
    head = f"gazette {number} of {day}\n" + "".join(line + "\n" for line in lines)
    return closed(head, len(lines))


def as_numbers(text):
    return list(text.encode("latin-1")) if isinstance(text, str) else list(text)


def take(text):
    numbers = as_numbers(text)
    return [0, len(numbers)] + numbers


def judge(text):
    numbers = as_numbers(text)
    return [1, len(numbers)] + numbers


ISSUES = [2]
GAPS = [3]
FILES = [6]


def file(number):
    return [4, number]


def value(number, code):
    return [5, number, code]


def sure(number):
    return [7, number]


def behind(number, n):
    return [8, number, n]


def then(number, n):
    return [9, number, n]


def split_answers(numbers):
    told = []
    at = 0
    while at < len(numbers):
        told.append(numbers[at + 1:at + 1 + numbers[at]])
        at += 1 + numbers[at]
    return told


def run(*calls):
    """One answer for each call."""
    told = split_answers(answers([number for call in calls for number in call]))
    assert len(told) == len(calls), (len(told), len(calls))
    return told


def last(*calls):
    return run(*calls)[-1]


def record(**fields):
    """A record as it is told, from c10="abc" and the like."""
    told = [1, len(fields)]
    for name in sorted(fields):
        told += [int(name[1:]), len(fields[name])] + as_numbers(fields[name])
    return told


NO_RECORD = [0]


def all_questions(files=range(1, 9), codes=(10, 11, 12, 99), numbers=range(0, 12)):
    """Calls 2 to 9 over some files, codes and issues' numbers."""
    calls = [ISSUES, GAPS, FILES]
    for number in files:
        calls += [file(number), sure(number)]
        calls += [value(number, code) for code in codes]
        calls += [behind(number, n) for n in numbers]
        calls += [then(number, n) for n in numbers]
    return calls
