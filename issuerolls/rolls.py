"""The files that are there, rebuilt from the known issues."""

from issuerolls.corrections import lines_in_the_end


def issues_up_to(issues, number):
    return [issue for issue in issues if issue.number <= number]


def work(files, simple):
    if simple.verb == "new":
        files[simple.file] = dict(simple.fields)
    elif simple.verb == "drop":
        files.pop(simple.file, None)
    elif simple.file in files:
        files[simple.file].update(simple.fields)


# The fields of each file that is there, when lines of issues up to this number have worked.
def files_behind(issues, number):
    files = {}
    for place, simple in lines_in_the_end(issues):
        if place[0] <= number:
            work(files, simple)
    return files


def record_of(files, file):
    if file not in files:
        return [0]
    fields = files[file]
    record = [1, len(fields)]
    for code in sorted(fields):
        record.append(code)
        record.append(len(fields[code]))
        record.extend(fields[code])
    return record


# The files whose records are others there than here, rising.
def files_that_differ(here, there):
    either = sorted(set(here) | set(there))
    return [file for file in either if record_of(here, file) != record_of(there, file)]
