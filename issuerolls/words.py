"""The words of a text, and a reader that asks of each whether it can stand where it stands."""

BLANK = 32
LINE_END = 10
DIGIT_0 = 48
DIGIT_9 = 57
LETTER_A = 97
LETTER_Z = 122
MOST_DIGITS = 6
MOST_VALUE_BYTES = 12


# A word can't stand where it stands, or words are missing.
class Fault(ValueError):
    def __init__(self, place):
        self.place = place


def bytes_of(signs):
    return [ord(sign) for sign in signs]


# Each word with how many bytes stand before it; an empty word has no bytes.
def words_of(text):
    words = []
    start = 0
    for place, byte in enumerate(text):
        if byte == BLANK or byte == LINE_END:
            words.append((start, text[start:place]))
            if byte == LINE_END:
                words.append((place, [LINE_END]))
            start = place + 1
    words.append((start, text[start:]))
    return words


def is_digit(byte):
    return DIGIT_0 <= byte <= DIGIT_9


def is_number(word):
    if len(word) < 1 or len(word) > MOST_DIGITS:
        return False
    if len(word) > 1 and word[0] == DIGIT_0:
        return False
    return all([is_digit(byte) for byte in word])


def number_of(word):
    total = 0
    for byte in word:
        total = total * 10 + byte - DIGIT_0
    return total


def is_value(word):
    if len(word) < 1 or len(word) > MOST_VALUE_BYTES:
        return False
    return all([is_digit(byte) or LETTER_A <= byte <= LETTER_Z for byte in word])


# Goes through a text word by word; raises Fault at the first word that can't stand.
class Reader:
    def __init__(self, text):
        # The word behind the last one is empty: it matches nothing, and its place is
        # the place of the fault where words are missing.
        self.words = words_of(text) + [(len(text), [])]
        self.length = len(text)
        self.at = 0

    def here(self):
        return self.words[self.at][0]

    # Whether no byte is left; a blank or a line's end may have stood last.
    def all_passed(self):
        return self.here() == self.length

    def word(self):
        return self.words[self.at][1]

    def sees(self, name):
        return self.word() == bytes_of(name)

    # Whether the next word is this one; if so it is passed.
    def finds(self, name):
        if not self.sees(name):
            return False
        self.at += 1
        return True

    def read_name(self, name):
        if not self.finds(name):
            raise Fault(self.here())

    def read_number(self, least, greatest):
        word = self.word()
        if not is_number(word) or not least <= number_of(word) <= greatest:
            raise Fault(self.here())
        self.at += 1
        return number_of(word)

    def read_value(self):
        word = self.word()
        if not is_value(word):
            raise Fault(self.here())
        self.at += 1
        return word

    def read_end(self):
        if self.at < len(self.words) - 1:
            raise Fault(self.here())
