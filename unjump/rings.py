"""Rings of a graph: their heads, what lies within them, and whether each has one way in."""

from unjump.musts import musts, stands_above, way_by, way_round
from unjump.nodes import comings, walked, ways


def orderly(graph):
    return strange_way(graph) is None


# A way back, as a tuple of both its nodes, to a node that needn't be come through, or None.
def strange_way(graph):
    tree = musts(graph)
    for place, goal in ways_back(graph):
        if not stands_above(tree, goal, place):
            return (place, goal)
    return None


def ways_back(graph):
    told = []
    for place, node in enumerate(graph):
        for goal in ways(node):
            if goal <= place:
                told.append((place, goal))
    return told


def heads(graph):
    tree = musts(graph)
    told = {}
    for place, goal in ways_back(graph):
        if stands_above(tree, goal, place):
            told[goal] = True
    return sorted(told)


def ring(graph, head):
    tree = musts(graph)
    froms = comings(graph)
    within = {head: True}
    come_to(froms, [place for place in froms[head] if stands_above(tree, head, place)], within)
    return sorted(within)


def nest(graph):
    rings = [(head, ring(graph, head)) for head in heads(graph)]
    told = {}
    for head, within in rings:
        others = [(len(nodes), other) for other, nodes in rings if other != head and head in nodes]
        told[head] = min(others)[1] if others != [] else None
    return told


def two_ways(graph):
    strange = strange_way(graph)
    if strange is None:
        return None
    place, goal = strange
    # By steps to greater numbers alone the ring has the goal as its least node, and the way to the goal is ahead of it.
    around = way_by(graph, goal, place, is_onward)
    straight = way_by(graph, 0, goal, is_onward)
    return (around, straight, up_to_first(way_round(graph, goal, place), around))


def is_onward(place, goal):
    return place < goal


def up_to_first(way, around):
    told = []
    for place in way:
        told.append(place)
        if place in around:
            return told
    return told


# The first set of several nodes that lie on a ring together where the nodes that are done are left out, or None. One
# node alone is left out, too: a way to itself makes no second way into its ring.
def set_left(goals, done):
    links = links_among(goals, [place for place in range(len(goals)) if place not in done])
    froms = turned(links)
    taken = {}
    # Of what isn't taken yet, just what is on a ring with the node that the walk finished last has ways to that one.
    for place in walked(links, list(links)):
        together = come_to(froms, [place], taken)
        if len(together) > 1:
            return sorted(together)
    return None


def links_among(goals, places):
    among = dict([(place, True) for place in places])
    return dict([(place, [goal for goal in goals[place] if goal in among]) for place in places])


def turned(links):
    froms = dict([(place, []) for place in links])
    for place in links:
        for goal in links[place]:
            froms[goal].append(place)
    return froms


# What can be come to from the starts and isn't taken yet; it is taken then.
def come_to(links, starts, taken):
    told = []
    left = list(starts)
    while left != []:
        place = left.pop()
        if place not in taken:
            taken[place] = True
            told.append(place)
            left.extend(links[place])
    return told


# The nodes of a set to which a way goes from outside of it, or at which the run begins.
def doors_of(goals, together):
    within = dict([(place, True) for place in together])
    reached = {0: True}
    for place in range(len(goals)):
        if place not in within:
            for goal in goals[place]:
                reached[goal] = True
    return [place for place in together if place in reached]
