"""Contexts, name by name, with the lists of their places and steps."""

from isthmus.errors import TooLarge
from isthmus.paths import resting, with_spot


class Scope:
    """A context: the empty one, or one with another name and its type behind it."""

    def __init__(self, before, name, kind):
        self.before = before
        self.name = name
        self.kind = kind
        self.longer = {}
        self.typed = {}
        self.equal_pairs = {}
        self.all_spots = None
        self.some_paths = None

    def within(self, name, kind):
        """Return the context with one more name."""
        key = (name, kind)
        if key not in self.longer:
            self.longer[key] = Scope(self, name, kind)
        return self.longer[key]

    def up_to(self, name):
        """Return the part of the context that ends with a name."""
        scope = self
        while scope.name != name:
            scope = scope.before
        return scope

    def row(self):
        """Return the parts of the context that are not empty, the shortest first."""
        rows = []
        scope = self
        while scope.before is not None:
            rows.append(scope)
            scope = scope.before
        rows.reverse()
        return rows

    def names(self):
        """Return the names, in order."""
        return [scope.name for scope in self.row()]


def empty_scope():
    """Return the empty context, which has one place, and no steps but its identity."""
    scope = Scope(None, "", None)
    scope.all_spots = [{}]
    scope.some_paths = []
    return scope


def scope_spots(world, scope):
    """Return the places of a context, ascending."""
    for part in scope.row():
        if part.all_spots is None:
            part.all_spots = longer_spots(world, part)
    return scope.all_spots


def longer_spots(world, scope):
    """Return the places of a context; those of the part ahead of the last name are known."""
    found = []
    for spots in scope.before.all_spots:
        groupoid = world.groupoid(scope.kind, spots)
        found.extend([with_spot(spots, scope.name, (thing, groupoid)) for thing in groupoid.objects_here()])
        check_many(world, found)
    return found


def scope_paths(world, scope):
    """Return steps of a context of which, with their inverses and the identities, all steps are composites."""
    scope_spots(world, scope)
    for part in scope.row():
        if part.some_paths is None:
            part.some_paths = lifted_paths(world, part) + inner_paths(world, part)
    return scope.some_paths


def lifted_paths(world, scope):
    """Return the generating steps of the part ahead of the last name, from each object of this name on."""
    found = []
    for path in scope.before.some_paths:
        action = world.action(scope.kind, path)
        found.extend([path.carried(scope.name, thing, action) for thing in action.source.objects_here()])
    return found


def inner_paths(world, scope):
    """Return the steps along which all but the last name rests, and this one goes along a generating arrow."""
    found = []
    for spots in scope.before.all_spots:
        groupoid = world.groupoid(scope.kind, spots)
        if not groupoid.is_discrete():
            frame = groupoid.frame()
            for source, target, arrow in frame.generators():
                ends = [(frame.rows[at], groupoid) for at in (source, target)]
                found.append(resting(spots).extended(scope.name, ends[0], ends[1], arrow))
    return found


def check_many(world, rows):
    """Raise TooLarge if these are too many places or steps."""
    if len(rows) > world.most:
        raise TooLarge("too many places or steps")


def place_of(scope, spots):
    """Return a place as the tuple of its parts."""
    return tuple([spots[name][0] for name in scope.names()])


def step_of(scope, path):
    """Return a step as the tuple of its parts."""
    return tuple([path.part(name) for name in scope.names()])


def spread_paths(world, scope, start, fan_of):
    """Return the steps from a place, name by name along the pairs (object, arrow) of fan_of(name, groupoid, object)."""
    found = [resting({})]
    for part in scope.row():
        name = part.name
        longer = []
        for path in found:
            action = world.action(part.kind, path)
            fan = fan_of(name, action.target, action.image(start[name][0]))
            longer.extend([path.extended(name, start[name], (thing, action.target), arrow) for thing, arrow in fan])
            check_many(world, longer)
        found = longer
    return found


def paths_between(world, scope, start, end):
    """Return the ascending list of the steps between two places."""
    def fan_of(name, groupoid, thing):
        """Return the arrows from an object to that of the end."""
        return [(end[name][0], arrow) for arrow in groupoid.links(thing, end[name][0])]

    return spread_paths(world, scope, start, fan_of)


def paths_from(world, scope, start):
    """Return the steps from a place, in any order."""
    return spread_paths(world, scope, start, lambda name, groupoid, thing: groupoid.fan(thing))


def joined_path(world, scope, first, second):
    """Return the composite of two steps, the second behind the first."""
    found = resting({})
    for part in scope.row():
        name = part.name
        ahead = world.action(part.kind, first)
        behind = world.action(part.kind, second)
        near = ahead.image(first.start[name][0])
        middle, end = first.end[name][0], second.end[name][0]
        arrow = behind.image_link(near, middle, first.part(name))
        made = behind.target.compose(behind.image(near), behind.image(middle), end, arrow, second.part(name))
        found = found.extended(name, first.start[name], second.end[name], made)
    return found


def inverse_path(world, scope, path):
    """Return the inverse of a step."""
    found = resting({})
    for part in scope.row():
        name = part.name
        ahead = world.action(part.kind, path)
        near = ahead.image(path.start[name][0])
        end = path.end[name][0]
        arrow = ahead.target.inverse(near, end, path.part(name))
        made = world.action(part.kind, found).image_link(end, near, arrow)
        found = found.extended(name, path.end[name], path.start[name], made)
    return found
