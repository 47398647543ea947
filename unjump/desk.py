"""The desk: texts of rows told as texts of forms, and texts of forms told as texts of rows."""

from unjump.doubling import doubled
from unjump.errors import NoWay
from unjump.flat import rows_of
from unjump.formtexts import read_form, written_form
from unjump.graphs import graph_of, laid_out
from unjump.guiding import guided
from unjump.rows import read, written
from unjump.telling import told


def unjumped(text, way="once"):
    if way not in ("once", "twice", "guided"):
        raise NoWay()
    graph = graph_of(read(text))
    if way == "twice":
        graph = doubled(graph)[0]
    elif way == "guided":
        graph = guided(graph)[0]
    return written_form(told(graph))


def rejumped(text):
    return written(laid_out(graph_of(rows_of(read_form(text)))))
