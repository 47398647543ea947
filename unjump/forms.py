"""Forms: whether they are sound, and the lines that tell them.

A line is a statement without the lists that stand in it; besides there are the lines ELSE and DONE.
"""

ELSE = ("else",)
DONE = ("done",)
OPENERS = ("choice", "round", "part")
MOST_NUMBER = 9999


def sound(form):
    lines = lines_of(form)
    numbers = [line[1] for line in lines if line[0] in ("round", "part")]
    if len(set(numbers)) < len(numbers):
        return False
    if any([number < 0 or number > MOST_NUMBER for number in numbers]):
        return False
    return keep_within(lines)


# Whether each leave and each again stands within what it names.
def keep_within(lines):
    opened = []
    for line in lines:
        if line[0] in OPENERS:
            opened.append(line[:2])
        elif line == DONE:
            opened.pop()
        elif line[0] in ("leave", "again") and not is_within(line, opened):
            return False
    return True


def is_within(line, opened):
    if ("round", line[1]) in opened:
        return True
    return line[0] == "leave" and ("part", line[1]) in opened


# The lines of a form in the order of its text. What is still to be told is kept in a list, since a form may be deep.
def lines_of(form):
    told = []
    left = list(reversed(form))
    while left != []:
        statement = left.pop()
        told.append(line_of(statement))
        left.extend(list(reversed(told_within(statement))))
    return told


def line_of(statement):
    if statement[0] == "choice":
        return statement[:4]
    if statement[0] in ("round", "part"):
        return statement[:2]
    return statement


def told_within(statement):
    if statement[0] in ("round", "part"):
        return statement[2] + [DONE]
    if statement[0] != "choice":
        return []
    yes, no = statement[4:]
    if no == []:
        return yes + [DONE]
    return yes + [ELSE] + no + [DONE]


# The form that lines tell in which each else and done has its place; an else without lines may stand there, too.
def form_of(lines):
    form = []
    opened = [[form]]
    for line in lines:
        if line == DONE:
            opened.pop()
        elif line == ELSE:
            opened[-1].pop(0)
        else:
            lists = lists_in(line)
            opened[-1][0].append(line + tuple(lists))
            if lists != []:
                opened.append(lists)
    return form


def lists_in(line):
    if line[0] == "choice":
        return [[], []]
    if line[0] in ("round", "part"):
        return [[]]
    return []
