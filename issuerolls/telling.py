"""What is told of the known issues, which come in rising order."""

from issuerolls.corrections import deciding_corrections, lines_in_the_end, placed_lines, standing_corrections
from issuerolls.gaps import is_sure
from issuerolls.reading import GREATEST_ISSUE
from issuerolls.rolls import files_behind, files_that_differ, issues_up_to, record_of
from issuerolls.writing import written_simple

NO_FIELD = -8


def all_files(issues):
    return files_behind(issues, GREATEST_ISSUE)


def tell_files(issues):
    return [0] + sorted(all_files(issues))


def tell_record(issues, file):
    return record_of(all_files(issues), file)


def tell_value(issues, file, code):
    fields = all_files(issues).get(file, {})
    if code not in fields:
        return [NO_FIELD]
    return [0] + fields[code]


def tell_sure(issues, file):
    return [1] if is_sure(issues, file) else [0]


def tell_behind(issues, file, number):
    return record_of(files_behind(issues, number), file)


def tell_then(issues, file, number):
    return tell_record(issues_up_to(issues, number), file)


def tell_simple_line(lines, place):
    decider = deciding_corrections(lines).get(place)
    if decider is None:
        return [0] + written_simple(lines[place].simple)
    fixed = lines[decider].simple
    if fixed is None:
        return [2, decider[0], decider[1]]
    return [1, decider[0], decider[1]] + written_simple(fixed)


def tell_line(issues, place):
    lines = placed_lines(issues)
    if lines[place].aim is None:
        return tell_simple_line(lines, place)
    return [3] if place in standing_corrections(lines) else [4]


def tell_aims(issues, aimed):
    lines = placed_lines(issues)
    standing = standing_corrections(lines)
    told = [0]
    for place, line in lines.items():
        if line.aim == aimed:
            told.extend([place[0], place[1], 1 if place in standing else 0])
    return told


def tell_last(issues):
    standing = standing_corrections(placed_lines(issues))
    if len(standing) == 0:
        return [0]
    last = max(standing)
    return [1, last[0], last[1]]


def tell_history(issues, file):
    told = [0]
    for place, simple in lines_in_the_end(issues):
        if simple.file == file:
            told.extend([place[0], place[1]])
    return told


def tell_without(issues, numbers):
    left = [issue for issue in issues if issue.number not in numbers]
    changed = files_that_differ(all_files(issues), all_files(left))
    return [len(changed)] + changed


def tell_search(issues, code, value):
    files = all_files(issues)
    return [0] + [file for file in sorted(files) if files[file].get(code) == value]
