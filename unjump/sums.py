"""Sums and tests of whole numbers, what an operand is worth, and the deeds of a run."""

from unjump.errors import ByNought


def made(sign, one, other):
    if sign == "+":
        return one + other
    if sign == "-":
        return one - other
    if sign == "/":
        return quotient(one, other)
    if sign == "rest":
        return rest(one, other)
    if sign == "&":
        return one & other
    return one ^ other


# Python rounds its quotient down, so the rest lies on the same side of nought as the other, as is asked here.
def quotient(one, other):
    if other == 0:
        raise ByNought()
    return one // other


def rest(one, other):
    if other == 0:
        raise ByNought()
    return one % other


def holds(sign, one, other):
    if sign == "<":
        return one < other
    return one == other


def worth(operand, memory):
    if isinstance(operand, str):
        return memory.get(operand, 0)
    return operand


def deed_of_sum(name, one, sign, other, memory):
    a = worth(one, memory)
    b = worth(other, memory)
    return ("sum", name, a, sign, b, made(sign, a, b))


def deed_of_test(one, sign, other, memory):
    a = worth(one, memory)
    b = worth(other, memory)
    return ("test", a, sign, b, holds(sign, a, b))
