"""The run of a form."""

from unjump.flat import rows_of
from unjump.running import run


# The rows of a form do what the form does, deed by deed; a round that does nothing for ever is a ring of jumps there.
def run_form(form, memory, most=100):
    return run(rows_of(form), memory, most)
