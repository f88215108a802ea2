"""What types and terms mean at places and along steps; what is found once is kept for the run."""

from isthmus.actions import Still
from isthmus.building import build_action, build_groupoid
from isthmus.groupoids import Span
from isthmus.nodes import Store
from isthmus.paths import place_key, with_spot
from isthmus.tracks import find_arrow
from isthmus.values import find_value

SHORT_WORDS = ("name", "point", "size")
# What "given" tells of a name that stands still is an identity in the type of this name. "given" does not tell that
# type, and the name may have another one elsewhere: so its arrows are not kept.
UNKEPT_WORDS = ("name", "point", "size", "given")


class World:
    """The meanings of nodes. most is the greatest extent that is taken on."""

    def __init__(self, most):
        self.most = most
        self.store = Store()
        self.spans = {}

    def node(self, word, parts):
        """Return the node with this word and these parts."""
        return self.store.node(word, parts)

    def span(self, many):
        """Return the discrete groupoid with the objects from 0 to many - 1."""
        if many not in self.spans:
            self.spans[many] = Span(self.most, many)
        return self.spans[many]

    def groupoid(self, kind, spots):
        """Return the groupoid of a type at a place."""
        if kind.word == "at":
            name, left, term, right = kind.parts
            spot = (self.value(term, spots), self.groupoid(left, spots))
            return self.groupoid(right, with_spot(spots, name, spot))
        key = place_key(kind.free, spots)
        if key not in kind.found_groupoids:
            kind.found_groupoids[key] = build_groupoid(self, kind, spots)
        return kind.found_groupoids[key]

    def action(self, kind, path):
        """Return the action of a type along a step."""
        if not path.touches(kind.free):
            return Still(self.groupoid(kind, path.end))
        if kind.word == "at":
            name, left, term, right = kind.parts
            return self.action(right, self.with_term(path, name, left, term))
        key = path.path_key(kind.free)
        if key not in kind.found_actions:
            kind.found_actions[key] = build_action(self, kind, path)
        return kind.found_actions[key]

    def with_term(self, path, name, kind, term):
        """Return the step with one more name, along the arrow of a term of this type."""
        first = (self.value(term, path.start), self.groupoid(kind, path.start))
        second = (self.value(term, path.end), self.groupoid(kind, path.end))
        return path.extended(name, first, second, self.along(term, path))

    def value(self, term, spots):
        """Return the object of a term at a place."""
        if term.word in SHORT_WORDS:
            return find_value(self, term, spots)
        key = place_key(term.free, spots)
        if key not in term.found_objects:
            term.found_objects[key] = find_value(self, term, spots)
        return term.found_objects[key]

    def along(self, term, path):
        """Return the arrow of a term along a step."""
        if term.word in UNKEPT_WORDS:
            return find_arrow(self, term, path)
        key = path.path_key(term.free)
        if key not in term.found_arrows:
            term.found_arrows[key] = find_arrow(self, term, path)
        return term.found_arrows[key]
