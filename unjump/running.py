"""The run of rows."""

from unjump.graphs import linked
from unjump.nodes import run_from


def run(rows, memory, most=100):
    nodes, start = linked(rows)
    return run_from(nodes, start, memory, most)
