"""Graphs with each name given but once: names split into versions, with joinings where ways meet.

The begin of a run counts as a node -1, from which one comes to node 0.
"""

from unjump.errors import ByNought
from unjump.musts import musts
from unjump.nodes import behind, comings
from unjump.sums import deed_of_sum, deed_of_test


def once(graph):
    tree = [-1] + musts(graph)[1:]
    sources = sources_of(graph)
    joined = joined_names(graph, meetings(tree, sources))
    counts = {}
    befores = []
    afters = {-1: {}}
    # A must is a smaller number than its node, so the versions behind it are known; a name without one has version 0.
    for place, node in enumerate(graph):
        versions = dict(afters[tree[place]])
        for name in joined[place]:
            versions[name] = new_version(counts, name)
        befores.append(dict(versions))
        if node[0] == "sum":
            versions[node[1]] = new_version(counts, node[1])
        afters[place] = versions
    return [(joinings_of(joined[place], befores[place], sources[place], afters),
             split_node(node, befores[place], afters[place])) for place, node in enumerate(graph)]


# For each node those from which a way goes to it, rising, each once.
def sources_of(graph):
    sources = [sorted(set(froms)) for froms in comings(graph)]
    sources[0].insert(0, -1)
    return sources


# For each node the places where what it gives meets what another one gives: it must be come through to come to one of
# their sources, but not to come to them, or is such a place itself.
def meetings(tree, sources):
    meets = [[] for place in tree]
    for place, starts in enumerate(sources):
        for start in starts:
            giver = start
            while giver != tree[place]:
                meets[giver].append(place)
                giver = tree[giver]
    return meets


# For each node the names that it joins, sorted.
def joined_names(graph, meets):
    joined = [[] for node in graph]
    names = [node[1] for node in graph if node[0] == "sum"]
    for name in sorted(set(names)):
        givers = [place for place, node in enumerate(graph) if node[:2] == ("sum", name)]
        for place in met_from(givers, meets):
            joined[place].append(name)
    return joined


# A joining gives its name, too, so what it gives meets others in its turn.
def met_from(givers, meets):
    met = {}
    left = list(givers)
    while left != []:
        giver = left.pop()
        for place in meets[giver]:
            if place not in met:
                met[place] = True
                left.append(place)
    return list(met)


def new_version(counts, name):
    counts[name] = counts.get(name, 0) + 1
    return counts[name]


def joinings_of(names, versions, starts, afters):
    joinings = []
    for name in names:
        sources = [(start, afters[start].get(name, 0)) for start in starts]
        joinings.append((name, versions[name], sources))
    return joinings


def split_node(node, before, after):
    if node[0] == "sum":
        name = (node[1], after[node[1]])
        return ("sum", name, split(node[2], before), node[3], split(node[4], before), node[5])
    if node[0] == "test":
        return ("test", split(node[1], before), node[2], split(node[3], before), node[4], node[5])
    return node


def split(operand, versions):
    if isinstance(operand, str):
        return (operand, versions.get(operand, 0))
    return operand


def run_once(told, memory, most=100):
    held = dict([((name, 0), memory[name]) for name in memory])
    deeds = []
    before = -1
    place = 0
    while True:
        joinings, node = told[place]
        held.update(joined_worths(joinings, before, held))
        if node[0] not in ("sum", "test") or len(deeds) >= most:
            return (deeds, "end" if node[0] == "end" else "on")
        try:
            deed = deed_of(node, held)
        except ByNought:
            return (deeds, "fault")
        deeds.append(deed)
        before = place
        place = behind(node, deed, held)


# All joinings of a node ask for what they need before one of them gives.
def joined_worths(joinings, before, held):
    worths = {}
    for name, version, sources in joinings:
        old = dict(sources)[before]
        worths[(name, version)] = held.get((name, old), 0)
    return worths


def deed_of(node, held):
    if node[0] == "sum":
        return deed_of_sum(node[1][0], worth_of(node[2], held), node[3], worth_of(node[4], held), {})
    return deed_of_test(worth_of(node[1], held), node[2], worth_of(node[3], held), {})


def worth_of(operand, held):
    if isinstance(operand, tuple):
        return held.get(operand, 0)
    return operand
