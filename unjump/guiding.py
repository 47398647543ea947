"""Graphs made orderly by a name that tells which way."""

from unjump.errors import TooGreat
from unjump.graphs import MOST_NODES
from unjump.nodes import numbered, walked, ways, with_ways
from unjump.rings import doors_of, set_left


# Of each set that lies on a ring the doors, where there are several, are put behind tests, by which alone they are come
# to then. Doors are done, and what is left of the set without them is looked at again, until no ring of several
# nodes is left.
def guided(graph):
    name = free_name(graph)
    nodes = list(graph)
    done = {}
    together = set_left(goals_of(nodes), done)
    while together is not None:
        doors = doors_of(goals_of(nodes), together)
        if len(doors) > 1:
            put_guides(nodes, name, together, doors)
        done.update(dict([(door, True) for door in doors]))
        together = set_left(goals_of(nodes), done)
    if len(nodes) > MOST_NODES:
        raise TooGreat()
    order = walked(goals_of(nodes), [0])
    return (numbered(nodes, order), [place if place < len(graph) else -1 for place in order], name)


def goals_of(nodes):
    return [ways(node) for node in nodes]


def free_name(graph):
    taken = {}
    for node in graph:
        for thing in node:
            taken[thing] = True
    number = 0
    while f"way{number}" in taken:
        number += 1
    return f"way{number}"


# A sum to which ways from outside and from within went would be one more way into the ring, so each kind has its own.
# Node 0 needs none at the begin: whatever lies on a ring with it is come to from it alone, so it has no other door.
def put_guides(nodes, name, together, doors):
    before = len(nodes)
    nodes.extend(tests_for(name, doors, before))
    outer = put_sums(nodes, name, doors, before)
    inner = put_sums(nodes, name, doors, before)
    for place in range(before):
        sums = inner if place in together else outer
        nodes[place] = with_ways(nodes[place], [sums.get(goal, goal) for goal in ways(nodes[place])])


# The last door needs no test: where no other one was meant, it was.
def tests_for(name, doors, first):
    tests = [("test", name, "=", count, door, first + count + 1) for count, door in enumerate(doors[:-1])]
    tests[-1] = with_ways(tests[-1], (doors[-2], doors[-1]))
    return tests


def put_sums(nodes, name, doors, first):
    sums = {}
    for count, door in enumerate(doors):
        sums[door] = len(nodes)
        nodes.append(("sum", name, count, "+", 0, first))
    return sums
