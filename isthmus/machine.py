"""What terms are: their objects at places and their arrows along steps."""

from isthmus.contexts import MOST
from isthmus.entry import Entry
from isthmus.stepping import Stepping


def value(context, term, place):
    """Return the object of a term at a place."""
    entry = Entry(context, MOST)
    node = entry.read_term(term)
    return entry.world.value(node, entry.read_place(place))


def along(context, term, start, end, step):
    """Return the arrow of a term along a step."""
    entry = Entry(context, MOST)
    node = entry.read_term(term)
    first = entry.read_place(start)
    second = entry.read_place(end)
    return entry.world.along(node, entry.read_step(first, second, step))


def table(context, term):
    """Return the objects of a term at all places, and its arrows along all steps."""
    entry = Entry(context, MOST)
    node = entry.read_term(term)
    whole = Stepping(entry.world, entry.scope)
    frame = whole.frame()
    objects = [(place, entry.world.value(node, whole.spots_at(place))) for place in frame.rows]
    arrows = []
    for source, target, step in frame.lines:
        start = frame.rows[source]
        end = frame.rows[target]
        arrows.append((start, end, step, entry.world.along(node, whole.path_at(start, end, step))))
    return (objects, arrows)
