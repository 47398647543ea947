"""Graphs made orderly by doubling nodes."""

from unjump.errors import TooGreat
from unjump.graphs import MOST_NODES
from unjump.nodes import numbered, walked, ways, with_ways
from unjump.rings import come_to, doors_of, links_among, set_left


# Of each set that lies on a ring one node is made the only one by which the ring is come to. Such a head is done, and
# what is left of the set without it is looked at again, until no ring of several nodes is left.
def doubled(graph):
    goals = [ways(node) for node in graph]
    origins = list(range(len(graph)))
    done = {}
    together = set_left(goals, done)
    while together is not None and len(goals) <= MOST_NODES:
        doors = doors_of(goals, together)
        head = chosen_head(goals, together, doors)
        put_copies(goals, origins, together, come_round(goals, together, doors, head))
        done[head] = True
        together = set_left(goals, done)
    if len(goals) > MOST_NODES:
        raise TooGreat()
    order = walked(goals, [0])
    nodes = [with_ways(graph[origin], goals[place]) for place, origin in enumerate(origins)]
    return (numbered(nodes, order), [origins[place] for place in order])


# Any node may be the head; the fewer copies it needs, the later the graph is too great. A set's only door needs none.
def chosen_head(goals, together, doors):
    return min(together, key=lambda head: len(come_round(goals, together, doors, head)))


# What of a set can be come to from its doors without the head.
def come_round(goals, together, doors, head):
    others = [place for place in together if place != head]
    return come_to(links_among(goals, others), [door for door in doors if door != head], {})


# The copies stand ahead of the ring, in the place of what they are copies of, and lead into it by the head alone.
# Node 0 is never copied: what lies on a ring with it is come to from it alone, so it is the only door of its set.
def put_copies(goals, origins, together, places):
    copies = dict([(place, len(goals) + count) for count, place in enumerate(places)])
    copied = [led_to_copies(goals[place], copies) for place in places]
    for place in range(len(goals)):
        if place not in together:
            goals[place] = led_to_copies(goals[place], copies)
    goals.extend(copied)
    origins.extend([origins[place] for place in places])


def led_to_copies(places, copies):
    return tuple([copies.get(place, place) for place in places])
