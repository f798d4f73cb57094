"""Issues, and how they are read from texts."""

from issuerolls.words import Fault, Reader

MOST_LINES = 40
GREATEST_ISSUE = 99
GREATEST_DAY = 100000
GREATEST_FILE = 999
LEAST_CODE = 10
GREATEST_CODE = 99
CHECK_DIVISOR = 9973


# A text has the form of an issue, but its count or its check is wrong.
class WrongClose(ValueError):
    pass


# What a simple line says: "new", "set" or "drop", of which file, and the fields told.
class Simple:
    def __init__(self, verb, file, fields):
        self.verb = verb
        self.file = file
        self.fields = fields


# A simple line has no aim; a "fix" has an aim and a simple line; a "void" has an aim alone.
class Line:
    def __init__(self, aim, simple):
        self.aim = aim
        self.simple = simple


class Issue:
    def __init__(self, number, day, lines, text):
        self.number = number
        self.day = day
        self.lines = lines
        self.text = text


def check_number(text):
    return sum([place * byte for place, byte in enumerate(text, start=1)]) % CHECK_DIVISOR


def read_file(reader):
    return reader.read_number(1, GREATEST_FILE)


def read_rising_fields(reader):
    fields = {}
    least = LEAST_CODE
    while not reader.sees("\n"):
        code = reader.read_number(least, GREATEST_CODE)
        fields[code] = reader.read_value()
        least = code + 1
    return fields


def read_simple(reader):
    if reader.finds("new"):
        file = read_file(reader)
        return Simple("new", file, read_rising_fields(reader))
    if reader.finds("set"):
        file = read_file(reader)
        code = reader.read_number(LEAST_CODE, GREATEST_CODE)
        return Simple("set", file, {code: reader.read_value()})
    reader.read_name("drop")
    return Simple("drop", read_file(reader), {})


# The place told in a correction, which is itself this line of this issue.
def read_aim(reader, number, line_number):
    aimed_issue = reader.read_number(1, number)
    greatest_line = MOST_LINES
    if aimed_issue == number:
        greatest_line = line_number - 1
    return (aimed_issue, reader.read_number(1, greatest_line))


def read_line(reader, number, line_number):
    if reader.finds("void"):
        return Line(read_aim(reader, number, line_number), None)
    if reader.finds("fix"):
        aim = read_aim(reader, number, line_number)
        reader.read_name("with")
        return Line(aim, read_simple(reader))
    return Line(None, read_simple(reader))


# The lines up to "close" or the text's end; a 41st is left unread, so that its first word is the fault.
def read_lines(reader, number):
    lines = []
    while len(lines) < MOST_LINES and not reader.sees("close") and not reader.all_passed():
        lines.append(read_line(reader, number, len(lines) + 1))
        reader.read_name("\n")
    return lines


# The lines of a text that has nothing else, as they can stand in this issue; raises Fault where they can't.
def read_lines_alone(text, number):
    reader = Reader(text)
    lines = read_lines(reader, number)
    if not reader.all_passed():
        raise Fault(reader.here())
    return lines


# The issue that a text is; raises Fault or WrongClose where it is none.
def read_issue(text):
    reader = Reader(text)
    reader.read_name("gazette")
    number = reader.read_number(1, GREATEST_ISSUE)
    reader.read_name("of")
    day = reader.read_number(0, GREATEST_DAY)
    reader.read_name("\n")
    lines = read_lines(reader, number)
    close_place = reader.here()
    reader.read_name("close")
    count = reader.read_number(0, MOST_LINES)
    check = reader.read_number(0, CHECK_DIVISOR - 1)
    reader.read_end()
    if count != len(lines) or check != check_number(text[:close_place]):
        raise WrongClose()
    return Issue(number, day, lines, text)
