"""The files that are there, rebuilt from the known issues."""

from issuerolls.corrections import lines_in_the_end


def issues_up_to(known, number):
    return [known[each] for each in sorted(known) if each <= number]


def work(files, simple):
    if simple.verb == "new":
        files[simple.file] = dict(simple.fields)
    elif simple.verb == "drop":
        files.pop(simple.file, None)
    elif simple.file in files:
        files[simple.file].update(simple.fields)


# The fields of each file that is there, when lines of issues up to this number have worked.
def files_behind(issues, number):
    files = {}
    for place, simple in lines_in_the_end(issues):
        if place[0] <= number:
            work(files, simple)
    return files


def record_of(files, file):
    if file not in files:
        return [0]
    fields = files[file]
    record = [1, len(fields)]
    for code in sorted(fields):
        record.append(code)
        record.append(len(fields[code]))
        record.extend(fields[code])
    return record
