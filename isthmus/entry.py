"""The way in: what callers pass is checked, and turned into what the program works with."""

from isthmus.checking import Checker
from isthmus.errors import BadPlace, BadStep
from isthmus.forms import check_context_form, check_context_names, check_form, check_names
from isthmus.paths import resting, with_spot
from isthmus.scopes import empty_scope
from isthmus.world import World


class Entry:
    """A checked context, and the run that belongs to it."""

    def __init__(self, context, most):
        check_context_form(context)
        check_context_names(context)
        self.world = World(most)
        self.checker = Checker(self.world)
        self.scope = empty_scope()
        for name, written in context:
            kind = self.world.store.read(written)
            self.checker.check_kind(kind, self.scope)
            self.scope = self.scope.within(name, kind)

    def read_node(self, written, sort):
        """Check the form and the names of a type (sort K) or term (sort T); return its node."""
        check_form(written, sort)
        check_names(written, tuple(self.scope.names()))
        return self.world.store.read(written)

    def read_kind(self, written):
        """Check a type; return its node."""
        kind = self.read_node(written, "K")
        self.checker.check_kind(kind, self.scope)
        return kind

    def read_term(self, written):
        """Check a term; return its node."""
        term = self.read_node(written, "T")
        self.checker.infer(term, self.scope)
        return term

    def kind_of(self, term):
        """Return the type of a checked term."""
        return self.checker.infer(term, self.scope)

    def read_place(self, place):
        """Check a place; return it by names."""
        rows = self.scope.row()
        if not isinstance(place, tuple) or len(place) != len(rows):
            raise BadPlace("no place of the context")
        spots = {}
        for part, thing in zip(rows, place):
            groupoid = self.world.groupoid(part.kind, spots)
            check_thing(groupoid, thing)
            spots = with_spot(spots, part.name, (thing, groupoid))
        return spots

    def read_step(self, start, end, step):
        """Check a step between two checked places; return it by names."""
        rows = self.scope.row()
        if not isinstance(step, tuple) or len(step) != len(rows):
            raise BadStep("no step of the context")
        path = resting({})
        for part, arrow in zip(rows, step):
            first = start[part.name]
            second = end[part.name]
            moved = self.world.action(part.kind, path).image(first[0])
            check_arrow(second[1], moved, second[0], arrow)
            path = path.extended(part.name, first, second, arrow)
        return path


def check_thing(groupoid, thing):
    """Raise BadPlace unless it is an object."""
    if not groupoid.has(thing):
        raise BadPlace("no object there")


def check_arrow(groupoid, start, end, arrow):
    """Raise BadStep unless it is an arrow between two objects."""
    if not groupoid.has_link(start, end, arrow):
        raise BadStep("no arrow there")
