"""Terms: their types, and which of them are equal."""

from isthmus.contexts import MOST
from isthmus.entry import Entry
from isthmus.equality import equal_kinds, equal_meanings
from isthmus.nodes import written


def type_of(context, term):
    """Return the type of a term, as point 13 writes it."""
    entry = Entry(context, MOST)
    return written(entry.kind_of(entry.read_term(term)))


def equal_terms(context, first, second):
    """Tell whether two terms of a context have equal types and are equal."""
    entry = Entry(context, MOST)
    one = entry.read_term(first)
    two = entry.read_term(second)
    if not equal_kinds(entry.world, entry.scope, entry.kind_of(one), entry.kind_of(two)):
        return False
    return equal_meanings(entry.world, entry.scope, one, two)
