"""What the tests share: texts of issues, calls, answers one by one, and a model of what issues say."""

from issuerolls.gazette import answers


def check_of(head):
    return sum(place * byte for place, byte in enumerate(head.encode("latin-1"), start=1)) % 9973


def marked(text):
    """A text without its mark "|", and the place of the mark."""
    place = text.index("|")
    return text[:place] + text[place + 1:], place


def closed(head, count):
    """Any text with a count and the right check behind it."""
    return f"{head}close {count} {check_of(head)}"


def ended(lines):
    return "".join(line + "\n" for line in lines)


def issue(number, day, *lines):
    return closed(f"gazette {number} of {day}\n" + ended(lines), len(lines))


def as_numbers(text):
    return list(text.encode("latin-1")) if isinstance(text, str) else list(text)


def take(text):
    numbers = as_numbers(text)
    return [0, len(numbers)] + numbers


def judge(text):
    numbers = as_numbers(text)
    return [1, len(numbers)] + numbers


ISSUES = [2]
GAPS = [3]
FILES = [6]
LAST = [19]


def file(number):
    return [4, number]


def value(number, code):
    return [5, number, code]


def sure(number):
    return [7, number]


def behind(number, n):
    return [8, number, n]


def then(number, n):
    return [9, number, n]


def line(number, line_number):
    return [10, number, line_number]


def aims(number, line_number):
    return [11, number, line_number]


def write(n, day, text):
    numbers = as_numbers(text)
    return [12, n, day, len(numbers)] + numbers


def history(number):
    return [13, number]


def text_of(number):
    return [14, number]


def lose(number):
    return [15, number]


def without(*numbers):
    return [16, len(numbers)] + list(numbers)


def search(code, bytes_of_value):
    numbers = as_numbers(bytes_of_value)
    return [17, code, len(numbers)] + numbers


def day_of(number):
    return [18, number]


def split_answers(numbers):
    told = []
    at = 0
    while at < len(numbers):
        told.append(numbers[at + 1:at + 1 + numbers[at]])
        at += 1 + numbers[at]
    return told


def run(*calls):
    """One answer for each call, of as many calls as can be handed in."""
    numbers = [number for call in calls for number in call]
    assert len(calls) <= 400 and len(numbers) <= 16000, (len(calls), len(numbers))
    assert sum(call[0] == 11 for call in calls) <= 200
    told = split_answers(answers(numbers))
    assert len(told) == len(calls), (len(told), len(calls))
    return told


def last(*calls):
    return run(*calls)[-1]


def record(**fields):
    """A record as it is told, from c10="abc" and the like."""
    told = [1, len(fields)]
    for name in sorted(fields):
        told += [int(name[1:]), len(fields[name])] + as_numbers(fields[name])
    return told


NO_RECORD = [0]
CODES = (10, 11, 99)
SOME_FILES = range(1, 5)


def taken(*issues_lines):
    """Takes of issues 1, 2, 3 .. with these lines each; None leaves an issue out."""
    return [take(issue(number, number * 10, *lines))
            for number, lines in enumerate(issues_lines, start=1) if lines is not None]


def all_questions(files=range(1, 7), codes=(10, 11, 12, 99), numbers=range(0, 12), lines=range(0, 4)):
    """Calls that change nothing, over some files, codes, issues' numbers and lines."""
    calls = [ISSUES, GAPS, FILES, LAST, without()]
    for number in files:
        calls += [file(number), sure(number), history(number)]
        calls += [value(number, code) for code in codes]
        calls += [behind(number, n) for n in numbers]
        calls += [then(number, n) for n in numbers]
    for number in numbers:
        calls += [text_of(number), day_of(number), without(number), without(number, 2)]
        calls += [ask(number, line_number) for ask in (line, aims) for line_number in lines]
    return calls + [search(code, sign) for code in codes for sign in ("a", "b", "")]


def random_simple(chance):
    verb = chance.choice(["new", "new", "set", "set", "drop"])
    words = [verb, str(chance.choice(SOME_FILES))]
    if verb == "new":
        for code in sorted(chance.sample(CODES, chance.randrange(3))):
            words += [str(code), chance.choice("abcd")]
    if verb == "set":
        words += [str(chance.choice(CODES)), chance.choice("abcd")]
    return " ".join(words)


def random_line(chance, number, line_number):
    """A line of this issue; corrections aim at near places, so that they often strike one another."""
    kind = chance.choice(["simple", "simple", "fix", "void", "void"])
    aimed_issue = max(1, number - chance.choice([0, 0, 1, 1, 2, 5]))
    aimed_line = chance.randrange(1, 8) if aimed_issue < number else chance.randrange(0, line_number)
    if kind == "simple" or aimed_line == 0:
        return random_simple(chance)
    if kind == "void":
        return f"void {aimed_issue} {aimed_line}"
    return f"fix {aimed_issue} {aimed_line} with {random_simple(chance)}"


def random_lines(chance, number):
    return [random_line(chance, number, line_number) for line_number in range(1, chance.randrange(1, 8))]


def random_issues(chance, count):
    """Lines by issue's number."""
    return {number: random_lines(chance, number) for number in range(1, count + 1)}


class Model:
    """What the document says of lines that are known, word by word and without haste."""

    def __init__(self, lines_of):
        self.numbers = sorted(lines_of)
        self.lines = {(number, at): each.split() for number in self.numbers
                      for at, each in enumerate(lines_of[number], start=1)}
        self.standing = {}

    def aimed(self, place):
        words = self.lines[place]
        return (int(words[1]), int(words[2])) if words[0] in ("fix", "void") else None

    def aims_at(self, place):
        return [other for other in sorted(self.lines) if self.aimed(other) == place]

    def stands(self, place):
        if place not in self.standing:
            self.standing[place] = not any(self.lines[other][0] == "void" and self.stands(other)
                                           for other in self.aims_at(place))
        return self.standing[place]

    def decider(self, place):
        """The place of the correction that decides what a simple line says, or None."""
        return max((other for other in self.aims_at(place) if self.stands(other)), default=None)

    def in_the_end(self, place):
        decider = self.decider(place)
        if decider is None:
            return self.lines[place]
        return self.lines[decider][4:] if self.lines[decider][0] == "fix" else None

    def ended(self):
        simple = [place for place in sorted(self.lines) if self.aimed(place) is None]
        return [(place, self.in_the_end(place)) for place in simple if self.in_the_end(place) is not None]

    def files(self, n=99):
        files = {}
        for place, words in self.ended():
            fields = {int(code): text for code, text in zip(words[2::2], words[3::2])}
            if place[0] > n:
                continue
            if words[0] == "new":
                files[int(words[1])] = fields
            elif words[0] == "drop":
                files.pop(int(words[1]), None)
            elif int(words[1]) in files:
                files[int(words[1])].update(fields)
        return files

    def record(self, number, n=99):
        files = self.files(n)
        if number not in files:
            return NO_RECORD
        return record(**{f"c{code}": text for code, text in files[number].items()})

    def value(self, number, code):
        fields = self.files().get(number, {})
        return [0] + as_numbers(fields[code]) if code in fields else [-8]

    def gaps(self):
        return [number for number in range(1, max(self.numbers, default=0)) if number not in self.numbers]

    def sure(self, number):
        gaps = self.gaps()
        return not gaps or any(place[0] > gaps[-1] and words[0] in ("new", "drop") and int(words[1]) == number
                               for place, words in self.ended())

    def line(self, place):
        if place not in self.lines:
            return [-5]
        if self.aimed(place) is not None:
            return [3] if self.stands(place) else [4]
        decider = self.decider(place)
        if decider is None:
            return [0] + as_numbers(" ".join(self.lines[place]))
        if self.lines[decider][0] == "void":
            return [2, *decider]
        return [1, *decider] + as_numbers(" ".join(self.lines[decider][4:]))

    def aims(self, place):
        if place not in self.lines:
            return [-5]
        return [0] + [number for other in self.aims_at(place) for number in (*other, int(self.stands(other)))]

    def history(self, number):
        return [0] + [each for place, words in self.ended() if int(words[1]) == number for each in place]

    def search(self, code, bytes_of_value):
        files = self.files()
        return [0] + [number for number in sorted(files) if code in files[number]
                      and as_numbers(files[number][code]) == as_numbers(bytes_of_value)]

    def last(self):
        standing = [place for place in self.lines if self.aimed(place) is not None and self.stands(place)]
        return [1, *max(standing)] if standing else [0]
