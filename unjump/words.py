"""The words of the texts: names, the numbers of rows, rounds and parts, operands, sums and tests.

A function that reads words tells None where they aren't what it reads.
"""

LETTERS = "abcdefghijklmnopqrstuvwxyz"
FIGURES = "0123456789"
KEPT = ("if", "jump", "end", "rest", "round", "part", "leave", "again", "else", "done")
MOST_SIGNS_OF_NAME = 8
MOST_FIGURES_OF_NUMBER = 4
MOST_FIGURES_OF_OPERAND = 18
SIGNS_OF_SUMS = ("+", "-", "/", "rest", "&", "^")
SIGNS_OF_TESTS = ("<", "=")


def is_name(word):
    if word == "" or len(word) > MOST_SIGNS_OF_NAME:
        return False
    if word in KEPT:
        return False
    return word[0] in LETTERS and is_made_of(word, LETTERS + FIGURES)


def read_number(word):
    if are_figures(word, MOST_FIGURES_OF_NUMBER):
        return int(word)
    return None


def read_operand(word):
    if is_name(word):
        return word
    return read_whole(word)


def read_whole(word):
    # Nought has one writing only, so that each number is told by just one word.
    if word == "-0":
        return None
    if word.startswith("-"):
        return read_below_nought(word[1:])
    if are_figures(word, MOST_FIGURES_OF_OPERAND):
        return int(word)
    return None


def read_below_nought(figures):
    if are_figures(figures, MOST_FIGURES_OF_OPERAND):
        return -int(figures)
    return None


# Each sign is looked up by itself, since Python's own int takes blanks, a + and an underscore too.
def are_figures(word, most):
    if word == "" or len(word) > most:
        return False
    if word[0] == "0" and len(word) > 1:
        return False
    return is_made_of(word, FIGURES)


def is_made_of(word, signs):
    return all([sign in signs for sign in word])


def read_sum(words):
    if len(words) != 5 or words[1] != "=" or not is_name(words[0]):
        return None
    asked = read_asked(words[2:], SIGNS_OF_SUMS)
    if asked is None:
        return None
    return (words[0],) + asked


def read_test(words):
    if len(words) != 3:
        return None
    return read_asked(words, SIGNS_OF_TESTS)


def read_asked(words, signs):
    one = read_operand(words[0])
    other = read_operand(words[2])
    if one is None or other is None or words[1] not in signs:
        return None
    return (one, words[1], other)


def written_sum(name, one, sign, other):
    return f"{name} = {one} {sign} {other}"


def written_test(one, sign, other):
    return f"if {one} {sign} {other}"
