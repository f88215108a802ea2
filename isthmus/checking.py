"""The check of types and terms whose form and names are right."""

from isthmus.equality import equal_kinds, flat_kind
from isthmus.errors import NotExchange, NotFlat, NotOnly, NotSmall, WrongType
from isthmus.rules import check_ends, check_family, find_type
from isthmus.scopes import scope_spots


class Checker:
    """Checks types and terms in contexts, each of them once in each context."""

    def __init__(self, world):
        self.world = world

    def node(self, word, parts):
        """Return the node with this word and these parts."""
        return self.world.node(word, parts)

    def infer(self, term, scope):
        """Check a term and return its type."""
        if term not in scope.typed:
            scope.typed[term] = find_type(self, term, scope)
        return scope.typed[term]

    def check_kind(self, kind, scope):
        """Check a type."""
        if kind not in scope.typed:
            self.check_parts(kind, scope)
            scope.typed[kind] = True

    def check_parts(self, kind, scope):
        """Check the parts of a type."""
        parts = kind.parts
        if kind.word == "of":
            self.check_term(parts[1], scope, self.node("sizes", parts[:1]))
        elif kind.word in ("pairs", "maps"):
            check_family(self, parts, scope)
        elif kind.word == "ways":
            check_ends(self, parts[0], scope, parts[1:])
        elif kind.word in ("either", "classes"):
            for part in parts:
                self.check_kind(part, scope)
        elif kind.word == "at":
            check_ends(self, parts[1], scope, parts[2:3])
            self.check_kind(parts[3], scope.within(parts[0], parts[1]))

    def check_term(self, term, scope, kind):
        """Check a term that must be of a type; the type is checked."""
        self.check_same(scope, self.infer(term, scope), kind)

    def check_same(self, scope, first, second):
        """Raise WrongType unless two types are equal."""
        if not equal_kinds(self.world, scope, first, second):
            raise WrongType("a part is of another sort than it must be")

    def check_flat(self, kind, scope):
        """Raise NotFlat unless a checked type is flat."""
        if not flat_kind(self.world, scope, kind):
            raise NotFlat("a part is not discrete at each place")

    def check_small(self, kind, scope, many):
        """Check a type that must be flat and have at most so many objects."""
        self.check_kind(kind, scope)
        self.check_flat(kind, scope)
        for spots in scope_spots(self.world, scope):
            if len(self.world.groupoid(kind, spots).objects_here()) > many:
                raise NotSmall("a part has too many objects")

    def check_exchange(self, function, scope, right):
        """Raise NotExchange unless a map is one to one and reaches all at each place."""
        for spots in scope_spots(self.world, scope):
            values = self.world.value(function, spots)[0]
            if sorted(values) != self.world.groupoid(right, spots).objects_here():
                raise NotExchange("a map is not one to one")

    def check_only(self, kind, scope):
        """Raise NotOnly unless a type has one object and one arrow at each place."""
        for spots in scope_spots(self.world, scope):
            groupoid = self.world.groupoid(kind, spots)
            if len(groupoid.objects_here()) != 1 or not groupoid.is_discrete():
                raise NotOnly("a part does not have exactly one object")
