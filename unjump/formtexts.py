"""Forms read from a text and written as one."""

from unjump.errors import NoForm, TooGreat
from unjump.forms import DONE, ELSE, OPENERS, form_of, lines_of, sound
from unjump.words import read_number, read_sum, read_test, written_sum, written_test

MOST_LINES = 400
MOST_LISTS = 90


def read_form(text):
    texts = [line.lstrip(" ") for line in text.split("\n")]
    texts = [line for line in texts if line != ""]
    if len(texts) > MOST_LINES:
        raise TooGreat()
    form = form_of(read_lines(texts))
    if not sound(form):
        raise NoForm()
    return form


def read_lines(texts):
    lines = []
    # The kinds of the lines that opened the lists that are open, the form itself ahead of them.
    opened = ["form"]
    for text in texts:
        line = read_line(text.split(" "))
        if line is None or not has_place(line, opened):
            raise NoForm()
        if line[0] in OPENERS and len(opened) == MOST_LISTS:
            raise TooGreat()
        lines.append(line)
        if line in (ELSE, DONE):
            opened.pop()
        if line == ELSE or line[0] in OPENERS:
            opened.append(line[0])
    if len(opened) > 1:
        raise NoForm()
    return lines


def has_place(line, opened):
    if line == ELSE:
        return opened[-1] == "choice"
    if line == DONE:
        return len(opened) > 1
    return True


# The line that words tell, or None.
def read_line(words):
    if words in (["end"], ["else"], ["done"]):
        return (words[0],)
    if words[0] in ("round", "part", "leave", "again"):
        return read_numbered(words)
    if words[0] == "if":
        return led_by("choice", read_test(words[1:]))
    return led_by("sum", read_sum(words))


def read_numbered(words):
    if len(words) != 2:
        return None
    number = read_number(words[1])
    if number is None:
        return None
    return (words[0], number)


def led_by(kind, asked):
    if asked is None:
        return None
    return (kind,) + asked


def written_form(form):
    texts = []
    depth = 0
    for line in lines_of(form):
        if line in (ELSE, DONE):
            depth -= 1
        texts.append("  " * depth + written_line(line))
        if line == ELSE or line[0] in OPENERS:
            depth += 1
    return "\n".join(texts)


def written_line(line):
    if line[0] == "sum":
        return written_sum(line[1], line[2], line[3], line[4])
    if line[0] == "choice":
        return written_test(line[1], line[2], line[3])
    if len(line) == 1:
        return line[0]
    kind, number = line
    return f"{kind} {number}"
