"""Which issues are missing, and which files are sure in spite of that."""

from issuerolls.corrections import lines_in_the_end


def gaps_of(issues):
    known_numbers = [issue.number for issue in issues]
    greatest = max(known_numbers, default=0)
    return [number for number in range(1, greatest + 1) if number not in known_numbers]


def is_sure(issues, file):
    last_gap = max(gaps_of(issues), default=0)
    if last_gap == 0:
        return True
    for place, simple in lines_in_the_end(issues):
        # A "set" leaves open whether the file is there: it settles nothing.
        if place[0] > last_gap and simple.file == file and simple.verb != "set":
            return True
    return False
