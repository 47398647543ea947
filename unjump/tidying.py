"""Forms made tidy.

A list is tidied when all that stands in it is; so what a round or part asks of its body is asked of what is left of it.
"""

from unjump.forms import DONE, ELSE, OPENERS, form_of, lines_of


# Lists of statements that a line opened: the one that is told now, and, of a choice, its yes ahead of it.
class Opened:
    def __init__(self, line):
        self.line = line
        self.lists = [[]]
        # For each of these lists whether one goes on behind it.
        self.goings = [True]

    # What stands behind a statement behind which one doesn't go on is never done, and left out.
    def tell(self, statements, going):
        if self.goings[-1]:
            self.lists[-1].extend(statements)
            self.goings[-1] = going

    def begin_no(self):
        self.lists.append([])
        self.goings.append(True)


def tidied(form):
    opened = [Opened(None)]
    for line in lines_of(form):
        if line == ELSE:
            opened[-1].begin_no()
        elif line == DONE:
            statements, going = closed(opened.pop())
            opened[-1].tell(statements, going)
        elif line[0] in OPENERS:
            opened.append(Opened(line))
        else:
            opened[-1].tell([line], line[0] == "sum")
    return renumbered(opened[0].lists[0])


# The statements that are left of a choice, a round or a part, and whether one goes on behind them.
def closed(done):
    if done.line[0] == "choice":
        if len(done.lists) == 1:
            done.begin_no()
        return ([done.line + tuple(done.lists)], any(done.goings))
    number = done.line[1]
    body = done.lists[0]
    if done.line[0] == "part":
        return closed_part(number, body, done.goings[0])
    if done.goings[0] or has_line(body, ("again", number)):
        return closed_round(number, body)
    # A round that is never gone round again does what a part does.
    return closed_part(number, body, False)


def closed_round(number, body):
    cut_tails(body, ("again", number))
    return ([("round", number, body)], has_line(body, ("leave", number)))


def closed_part(number, body, going):
    leave = ("leave", number)
    going = going or has_line(body, leave)
    cut_tails(body, leave)
    if not has_line(body, leave):
        return (body, going)
    if len(body) == 1 and body[0][0] == "round":
        # Behind the round one comes out of the part at once, so whoever leaves the part may leave the round.
        return (with_other(body, leave, ("leave", body[0][1])), True)
    return ([("part", number, body)], True)


def has_line(statements, line):
    return line in lines_of(statements)


def with_other(statements, line, other):
    return form_of([other if told == line else told for told in lines_of(statements)])


# Takes a jump from all tails of a list that was made here: there it goes just where one comes without it.
def cut_tails(statements, jump):
    left = [statements]
    while left != []:
        tail = left.pop()
        if tail != [] and tail[-1] == jump:
            tail.pop()
        if tail != [] and tail[-1][0] == "choice":
            left.extend(tail[-1][4:])


def renumbered(form):
    lines = lines_of(form)
    olds = [line[1] for line in lines if line[0] in ("round", "part")]
    numbers = dict([(old, number) for number, old in enumerate(olds)])
    return form_of([with_number(line, numbers) for line in lines])


def with_number(line, numbers):
    if line[0] in ("round", "part", "leave", "again"):
        return (line[0], numbers[line[1]])
    return line
