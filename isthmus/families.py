"""A type in a context with one more name, seen over the objects of a groupoid."""

from isthmus.paths import key_of, resting, with_spot


class Family:
    """At one place: the groupoid over each object of the base, and what each arrow of the base does to them."""

    def __init__(self, world, name, base, kind, spots):
        self.world = world
        self.name = name
        self.base = base
        self.kind = kind
        self.spots = spots
        # Where the type does not speak of the name, it is the same over all objects, and no arrow moves anything.
        self.is_even = name not in kind.free
        self.fibres = {}
        self.shifts = {}

    def over(self, thing):
        """Return the groupoid over an object."""
        key = "" if self.is_even else key_of(thing)
        if key not in self.fibres:
            spots = with_spot(self.spots, self.name, (thing, self.base))
            self.fibres[key] = self.world.groupoid(self.kind, spots)
        return self.fibres[key]

    def shift(self, start, end, arrow):
        """Return the action along an arrow."""
        key = "" if self.is_even else (key_of(start), key_of(end), key_of(arrow))
        if key not in self.shifts:
            first = (start, self.base)
            second = (end, self.base)
            path = resting(self.spots).extended(self.name, first, second, arrow)
            self.shifts[key] = self.world.action(self.kind, path)
        return self.shifts[key]


class Sweep:
    """Along one step: the action over each object of the base, which itself goes along an identity."""

    def __init__(self, world, name, base, kind, path):
        self.world = world
        self.name = name
        self.base = base
        self.kind = kind
        self.path = path
        self.lifts = {}

    def lift(self, thing):
        """Return the action over an object."""
        key = key_of(thing)
        if key not in self.lifts:
            self.lifts[key] = self.world.action(self.kind, self.path.carried(self.name, thing, self.base))
        return self.lifts[key]
