"""Rows made of a form.

While they are made their goals are marks: ("again", number) the begin of a round's body, ("leave", number) what is
behind a round or part, ("yes", row), ("no", row) and ("behind", row) the two lists of a choice and what is behind it.
"""

from unjump.forms import DONE, ELSE, OPENERS, lines_of


def rows_of(form):
    told = []
    places = {}
    opened = []
    for line in lines_of(form):
        if line[0] in OPENERS:
            opened.append(begin_rows(line, told, places))
        elif line == ELSE:
            begin_no(opened[-1], told, places)
        elif line == DONE:
            finish_rows(opened.pop(), told, places)
        elif line[0] in ("leave", "again"):
            told.append(("jump", line))
        else:
            told.append(line)
    told.append(("end",))
    return [(number,) + with_goal(row, places) for number, row in enumerate(told)]


# Tells what is opened by the line: its kind, and the number by which its marks are known.
def begin_rows(line, told, places):
    if line[0] != "choice":
        places[("again", line[1])] = len(told)
        return line
    number = len(told)
    told.append(("test",) + line[1:] + (("yes", number),))
    told.append(("jump", ("no", number)))
    places[("yes", number)] = len(told)
    return ("choice", number)


def begin_no(choice, told, places):
    told.append(("jump", ("behind", choice[1])))
    places[("no", choice[1])] = len(told)


def finish_rows(done, told, places):
    kind, number = done
    if kind == "choice":
        # Without an else the way of no comes here, too.
        places.setdefault(("no", number), len(told))
        places[("behind", number)] = len(told)
    if kind == "round":
        told.append(("jump", ("again", number)))
    if kind in ("round", "part"):
        places[("leave", number)] = len(told)


def with_goal(row, places):
    if row[0] in ("test", "jump"):
        return row[:-1] + (places[row[-1]],)
    return row
