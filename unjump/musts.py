"""Which nodes must be come through to come to another one, and the ways round those that needn't."""

from unjump.nodes import comings, ways


# By the numbering each node but 0 has a way to it from a smaller number, so all have an answer behind the first turn;
# a way back may still draw one nearer to 0, so there are turns until nothing changes.
def musts(graph):
    froms = comings(graph)
    told = [None] * len(graph)
    changed = True
    while changed:
        changed = False
        for place in range(1, len(graph)):
            last = last_above_all(told, froms[place])
            if last != told[place]:
                told[place] = last
                changed = True
    return told


def last_above_all(told, places):
    last = None
    for place in places:
        # A node without an answer so far is come to by a way back alone, and tells nothing yet.
        if place == 0 or told[place] is not None:
            last = place if last is None else last_above(told, last, place)
    return last


# A must is a smaller number than its node, so the greater of the two can't stand above the other.
def last_above(told, one, other):
    while one != other:
        if one < other:
            other = told[other]
        else:
            one = told[one]
    return one


def stands_above(musts, one, other):
    place = other
    while place > one:
        place = musts[place]
    return place == one


def way_round(graph, one, other):
    if one == 0:
        return None
    return way_by(graph, 0, other, lambda place, goal: goal != one)


# A shortest way by those steps, from a node to a goal of it, that are allowed; so no node stands on it twice. None
# where there is no way.
def way_by(graph, begin, last, allowed):
    befores = {begin: None}
    reached = [begin]
    while reached != []:
        beyond = []
        for place in reached:
            for goal in ways(graph[place]):
                if goal not in befores and allowed(place, goal):
                    befores[goal] = place
                    beyond.append(goal)
        reached = beyond
    if last not in befores:
        return None
    return traced(befores, last)


def traced(befores, last):
    told = []
    place = last
    while place is not None:
        told.append(place)
        place = befores[place]
    told.reverse()
    return told
