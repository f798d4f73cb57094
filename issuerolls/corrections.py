"""Which corrections stand, and what the simple lines say in the end."""


# All lines of issues that come in rising order, each with its place.
def placed_lines(issues):
    lines = []
    for issue in issues:
        for line_number, line in enumerate(issue.lines, start=1):
            lines.append(((issue.number, line_number), line))
    return lines


# For each place at which a correction that stands aims, the last one that does.
def deciding_corrections(lines):
    deciding = {}
    struck = {}
    # A line is aimed at by later ones alone: going back, all that can strike a correction
    # is settled before it comes.
    for place, line in reversed(lines):
        if line.aim is not None and place not in struck:
            deciding.setdefault(line.aim, line)
            if line.simple is None:
                struck[line.aim] = True
    return deciding


# In order: each simple line's place and what it says in the end, without those struck.
def lines_in_the_end(issues):
    lines = placed_lines(issues)
    deciding = deciding_corrections(lines)
    ended = []
    for place, line in lines:
        if line.aim is None:
            simple = deciding.get(place, line).simple
            if simple is not None:
                ended.append((place, simple))
    return ended
