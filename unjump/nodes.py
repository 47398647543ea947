"""Nodes of graphs: their ways, how they are numbered, and the run of a graph."""

from unjump.errors import ByNought
from unjump.sums import deed_of_sum, deed_of_test


def ways(node):
    if node[0] == "sum":
        return (node[5],)
    if node[0] == "test":
        return (node[4], node[5])
    return ()


def with_ways(node, goals):
    if node[0] == "sum":
        return node[:5] + tuple(goals)
    if node[0] == "test":
        return node[:4] + tuple(goals)
    return node


def comings(graph):
    told = [[] for node in graph]
    for place, node in enumerate(graph):
        for goal in ways(node):
            told[goal].append(place)
    return told


# The order in which a walk numbers what can be come to from the starts; a goal that stands last is gone to first,
# which for the ways of a test is its no. What is still open is kept in a list, since a walk may be very deep.
def walked(goals, starts):
    begun = {}
    finished = []
    for start in starts:
        opened = []
        if start not in begun:
            begun[start] = True
            opened.append((start, list(goals[start])))
        while opened:
            place, left = opened[-1]
            if left == []:
                finished.append(place)
                opened.pop()
            else:
                goal = left.pop()
                if goal not in begun:
                    begun[goal] = True
                    opened.append((goal, list(goals[goal])))
    finished.reverse()
    return finished


# The nodes that stand in an order, with the numbers that they have there.
def numbered(nodes, order):
    numbers = dict([(place, number) for number, place in enumerate(order)])
    return [with_ways(nodes[place], [numbers[goal] for goal in ways(nodes[place])]) for place in order]


def run_graph(graph, memory, most=100):
    return run_from(graph, 0, memory, most)


def run_from(nodes, start, memory, most):
    held = dict(memory)
    deeds = []
    place = start
    while nodes[place][0] in ("sum", "test") and len(deeds) < most:
        try:
            deed = deed_of(nodes[place], held)
        except ByNought:
            return (deeds, "fault", held)
        deeds.append(deed)
        place = behind(nodes[place], deed, held)
    word = "end" if nodes[place][0] == "end" else "on"
    return (deeds, word, held)


def deed_of(node, memory):
    if node[0] == "sum":
        return deed_of_sum(node[1], node[2], node[3], node[4], memory)
    return deed_of_test(node[1], node[2], node[3], memory)


# Where the run goes on behind a deed; what a sum made is kept in the memory on the way.
def behind(node, deed, memory):
    if node[0] == "sum":
        memory[node[1]] = deed[5]
        return node[5]
    return node[4] if deed[4] else node[5]
