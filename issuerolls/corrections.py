"""Which corrections stand, and what the simple lines say in the end."""


# All lines of issues that come in rising order, by their places, in order.
def placed_lines(issues):
    lines = {}
    for issue in issues:
        for line_number, line in enumerate(issue.lines, start=1):
            lines[(issue.number, line_number)] = line
    return lines


# The places of the corrections that stand, the last one first.
def standing_corrections(lines):
    standing = {}
    struck = {}
    # A line is aimed at by later ones alone: going back, all that can strike a correction
    # is settled before it comes.
    for place in reversed(list(lines)):
        line = lines[place]
        if line.aim is not None and place not in struck:
            standing[place] = True
            if line.simple is None:
                struck[line.aim] = True
    return standing


# For each place at which a correction that stands aims, the place of the last one that does.
def deciding_corrections(lines):
    deciding = {}
    for place in standing_corrections(lines):
        deciding.setdefault(lines[place].aim, place)
    return deciding


# In order: each simple line's place and what it says in the end, without those struck.
def lines_in_the_end(issues):
    lines = placed_lines(issues)
    deciding = deciding_corrections(lines)
    ended = []
    for place, line in lines.items():
        if line.aim is None:
            simple = lines[deciding.get(place, place)].simple
            if simple is not None:
                ended.append((place, simple))
    return ended
