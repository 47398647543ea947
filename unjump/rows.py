"""Rows of a program with jumps, read from a text and written as one."""

from unjump.errors import NoEnd, NoJump, NoRow, TooGreat
from unjump.words import read_number, read_sum, read_test, written_sum, written_test

MOST_ROWS_OF_TEXT = 80


def read(text):
    lines = text.split("\n")
    places = [place for place, line in enumerate(lines) if line != ""]
    if len(places) > MOST_ROWS_OF_TEXT:
        raise TooGreat()
    rows = read_lines(lines, places)
    refuse_lost_jumps(rows, places)
    if rows == [] or rows[-1][1] not in ("jump", "end"):
        raise NoEnd()
    return rows


def read_lines(lines, places):
    rows = []
    before = -1
    for place in places:
        row = read_row(lines[place])
        if row is None or row[0] <= before:
            raise NoRow(place)
        before = row[0]
        rows.append(row)
    return rows


def read_row(line):
    words = line.split(" ")
    if not words[0].endswith(":"):
        return None
    number = read_number(words[0][:-1])
    told = read_told(words[1:])
    if number is None or told is None:
        return None
    return (number,) + told


# What stands behind a row's number, as the row's tuple has it there.
def read_told(words):
    if words == ["end"]:
        return ("end",)
    if len(words) == 2 and words[0] == "jump":
        return read_jump(words[1])
    if len(words) == 6 and words[0] == "if" and words[4] == "jump":
        return read_test_row(words)
    asked = read_sum(words)
    if asked is None:
        return None
    return ("sum",) + asked


def read_jump(word):
    to = read_number(word)
    if to is None:
        return None
    return ("jump", to)


def read_test_row(words):
    asked = read_test(words[1:4])
    to = read_number(words[5])
    if asked is None or to is None:
        return None
    return ("test",) + asked + (to,)


def refuse_lost_jumps(rows, places):
    numbers = dict([(row[0], True) for row in rows])
    for place, row in zip(places, rows):
        if row[1] in ("test", "jump") and row[-1] not in numbers:
            raise NoJump(place)


def written(rows):
    return "\n".join([written_row(row) for row in rows])


def written_row(row):
    number = row[0]
    told = written_told(row)
    return f"{number}: {told}"


def written_told(row):
    if row[1] == "end":
        return "end"
    if row[1] == "sum":
        return written_sum(row[2], row[3], row[4], row[5])
    to = row[-1]
    if row[1] == "jump":
        return f"jump {to}"
    asked = written_test(row[2], row[3], row[4])
    return f"{asked} jump {to}"
