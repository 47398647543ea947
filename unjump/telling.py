"""Orderly graphs told as forms."""

from unjump.errors import TwoWays
from unjump.forms import DONE, ELSE, form_of
from unjump.musts import musts
from unjump.nodes import comings
from unjump.rings import heads, orderly, ring
from unjump.tidying import tidied


# At first a way to another node is told as a jump, or as that node's own lines; tidying takes out the jumps that lead
# where one comes anyhow.
def told(graph):
    if not orderly(graph):
        raise TwoWays()
    rings = dict([(head, ring(graph, head)) for head in heads(graph)])
    apart = parted(graph, rings)
    lines = {}
    # What stands in the lines of a node has greater numbers than it, so its own lines are there already.
    for place in range(len(graph) - 1, -1, -1):
        own = own_lines(graph[place], place, apart, lines)
        lines[place] = with_behind(place, own, rings, apart, lines)
    return tidied(form_of(lines[0]))


# The nodes that stand behind a part, each with the node about whose lines that part is closed: a node outside of rings
# in which its must is stands behind the outermost of them (its head is the least), another one to which several ways go
# onward behind its must.
def parted(graph, rings):
    tree = musts(graph)
    apart = {}
    for place, froms in enumerate(comings(graph)):
        left = [head for head in rings if tree[place] in rings[head] and place not in rings[head]]
        onward = [start for start in froms if start < place]
        if left != []:
            apart[place] = min(left)
        elif len(onward) > 1:
            apart[place] = tree[place]
    return apart


def own_lines(node, place, apart, lines):
    if node[0] == "sum":
        return [node[:5]] + way_lines(place, node[5], apart, lines)
    if node[0] == "test":
        yes = way_lines(place, node[4], apart, lines)
        no = way_lines(place, node[5], apart, lines)
        return [("choice",) + node[1:4]] + yes + [ELSE] + no + [DONE]
    if node[0] == "spin":
        return [("round", round_of(place)), DONE]
    return [("end",)]


def way_lines(place, goal, apart, lines):
    if goal <= place:
        return [("again", round_of(goal))]
    if goal in apart:
        return [("leave", part_of(goal))]
    return lines[goal]


def with_behind(place, own, rings, apart, lines):
    behind = [child for child in sorted(apart) if apart[child] == place]
    if place not in rings:
        return with_parts(own, behind, lines)
    within = with_parts(own, [child for child in behind if child in rings[place]], lines)
    whole = [("round", round_of(place))] + within + [DONE]
    return with_parts(whole, [child for child in behind if child not in rings[place]], lines)


# Ways onward go to greater numbers, so the part of a greater one is closed about the lines of the smaller ones, too.
def with_parts(own, children, lines):
    for child in children:
        own = [("part", part_of(child))] + own + [DONE] + lines[child]
    return own


# Until it is tidied, a form's rounds and parts are known by their nodes.
def round_of(place):
    return 2 * place


def part_of(place):
    return 2 * place + 1
