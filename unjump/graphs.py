"""The graph of rows, and the rows as which a graph is laid out."""

from unjump.errors import TooGreat
from unjump.nodes import numbered, walked, ways

MOST_NODES = 40


def graph_of(rows):
    nodes, start = linked(rows)
    order = walked([ways(node) for node in nodes], [start])
    if len(order) > MOST_NODES:
        raise TooGreat()
    return numbered(nodes, order)


# Each row as a node whose ways have passed all jumps, and the place of the node at which a run begins. A jump is told
# as a spin: the ways come to one only where it stands for a ring of jumps.
def linked(rows):
    places = dict([(row[0], place) for place, row in enumerate(rows)])
    landed = landings(rows, places)
    nodes = []
    for place, row in enumerate(rows):
        if row[1] == "sum":
            nodes.append(row[1:] + (landed[place + 1],))
        elif row[1] == "test":
            nodes.append(row[1:5] + (landed[places[row[5]]], landed[place + 1]))
        elif row[1] == "end":
            nodes.append(("end",))
        else:
            nodes.append(("spin",))
    return (nodes, landed[0])


# For each place the place to which one comes from it along jumps. One jump of each ring stands for all of it.
def landings(rows, places):
    landed = {}
    for start in range(len(rows)):
        passed = {}
        place = start
        while place not in landed and place not in passed and rows[place][1] == "jump":
            passed[place] = True
            place = places[rows[place][2]]
        goal = landed.get(place, place)
        landed[place] = goal
        for jump in passed:
            landed[jump] = goal
    return landed


def laid_out(graph):
    numbers = first_numbers(graph)
    rows = []
    for place, node in enumerate(graph):
        rows.extend(rows_of_node(node, place, numbers))
    return rows


# The number of the first row of each node.
def first_numbers(graph):
    numbers = []
    number = 0
    for place, node in enumerate(graph):
        numbers.append(number)
        number += 2 if needs_jump(node, place) else 1
    return numbers


def needs_jump(node, place):
    goals = ways(node)
    return goals != () and goals[-1] != place + 1


def rows_of_node(node, place, numbers):
    number = numbers[place]
    if node[0] == "end":
        return [(number, "end")]
    if node[0] == "spin":
        return [(number, "jump", number)]
    if node[0] == "sum":
        rows = [(number,) + node[:5]]
    else:
        rows = [(number,) + node[:4] + (numbers[node[4]],)]
    if needs_jump(node, place):
        rows.append((number + 1, "jump", numbers[ways(node)[-1]]))
    return rows
