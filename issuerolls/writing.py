"""Issues and simple lines as they are written."""

from issuerolls.reading import check_number, read_lines_alone
from issuerolls.words import bytes_of


# The text of an issue with these lines; raises Fault where they can't stand in it.
def written_issue(number, day, lines_text):
    count = len(read_lines_alone(lines_text, number))
    head = bytes_of(f"gazette {number} of {day}\n") + lines_text
    check = check_number(head)
    return head + bytes_of(f"close {count} {check}")


# The words of a simple line with single blanks between.
def written_simple(simple):
    text = bytes_of(simple.verb + " " + str(simple.file))
    for code, value in simple.fields.items():
        text.extend(bytes_of(f" {code} "))
        text.extend(value)
    return text
