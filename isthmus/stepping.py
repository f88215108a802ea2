"""A whole context as a groupoid, and a type of it as a family over this groupoid."""

from isthmus.groupoids import Groupoid
from isthmus.paths import key_of, resting
from isthmus.scopes import inverse_path, joined_path, paths_from, place_of, scope_spots, step_of


class Stepping(Groupoid):
    """The places and steps of a context, told as callers write them; only entry asks whether a single one is one."""

    def __init__(self, world, scope):
        Groupoid.__init__(self, world.most)
        self.world = world
        self.scope = scope
        self.rows = []
        self.spots = {}
        self.paths = {}
        self.fans = {}
        for spots in scope_spots(world, scope):
            place = place_of(scope, spots)
            self.rows.append(place)
            self.spots[key_of(place)] = spots

    def spots_at(self, place):
        """Return a place by names."""
        return self.spots[key_of(place)]

    def path_at(self, start, end, step):
        """Return a step by names."""
        key = (key_of(start), key_of(end), key_of(step))
        if key not in self.paths:
            first = self.spots_at(start)
            second = self.spots_at(end)
            path = resting({})
            for name, arrow in zip(self.scope.names(), step):
                path = path.extended(name, first[name], second[name], arrow)
            self.paths[key] = path
        return self.paths[key]

    def objects_here(self):
        """Return the places."""
        return self.rows

    def fan(self, thing):
        """Return the steps from a place."""
        key = key_of(thing)
        if key not in self.fans:
            paths = paths_from(self.world, self.scope, self.spots[key])
            self.fans[key] = sorted([(place_of(self.scope, path.end), step_of(self.scope, path)) for path in paths])
        return self.fans[key]

    def compose(self, start, middle, end, first, second):
        """Return the composite."""
        one = self.path_at(start, middle, first)
        two = self.path_at(middle, end, second)
        return step_of(self.scope, joined_path(self.world, self.scope, one, two))

    def inverse(self, start, end, arrow):
        """Return the inverse."""
        return step_of(self.scope, inverse_path(self.world, self.scope, self.path_at(start, end, arrow)))

    def identity(self, thing):
        """Return the identity."""
        return step_of(self.scope, resting(self.spots_at(thing)))


class Spread:
    """A type of a context over the places: the groupoid at each of them, and what each step does to them."""

    def __init__(self, world, scope, kind):
        self.world = world
        self.kind = kind
        self.base = Stepping(world, scope)

    def over(self, thing):
        """Return the groupoid at a place."""
        return self.world.groupoid(self.kind, self.base.spots_at(thing))

    def shift(self, start, end, arrow):
        """Return the action along a step."""
        return self.world.action(self.kind, self.base.path_at(start, end, arrow))
