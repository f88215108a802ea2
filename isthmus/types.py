"""Types: what they are at the places of a context and along its steps."""

from isthmus.contexts import MOST
from isthmus.entry import Entry, check_arrow, check_thing
from isthmus.equality import equal_kinds, flat_kind
from isthmus.errors import BadPlace


def check_type(context, kind):
    """Return None if it is a type of the context, otherwise raise what is wrong with it."""
    Entry(context, MOST).read_kind(kind)


def groupoid_of(context, kind, place):
    """Check a context, a type and a place; return the groupoid of the type there."""
    entry = Entry(context, MOST)
    node = entry.read_kind(kind)
    return entry.world.groupoid(node, entry.read_place(place))


def action_of(context, kind, start, end, step, things, many):
    """Check all these, so many objects at the start ahead of the step; return the action of the type along it."""
    entry = Entry(context, MOST)
    node = entry.read_kind(kind)
    first = entry.read_place(start)
    second = entry.read_place(end)
    check_ends(entry.world.groupoid(node, first), things, many)
    return entry.world.action(node, entry.read_step(first, second, step))


def check_ends(groupoid, ends, many):
    """Raise BadPlace unless the ends are so many objects."""
    if not isinstance(ends, tuple) or len(ends) != many:
        raise BadPlace("the wrong number of objects")
    for thing in ends:
        check_thing(groupoid, thing)


def objects(context, kind, place):
    """Return the ascending list of the objects of a type at a place."""
    return list(groupoid_of(context, kind, place).objects_here())


def arrows(context, kind, place, start, end):
    """Return the ascending list of the arrows between two objects."""
    groupoid = groupoid_of(context, kind, place)
    check_ends(groupoid, (start, end), 2)
    return list(groupoid.links(start, end))


def compose(context, kind, place, ends, first, second):
    """Return the composite of two arrows, first and then second; ends are the three objects that they join."""
    groupoid = groupoid_of(context, kind, place)
    check_ends(groupoid, ends, 3)
    start, middle, end = ends
    check_arrow(groupoid, start, middle, first)
    check_arrow(groupoid, middle, end, second)
    return groupoid.compose(start, middle, end, first, second)


def inverse(context, kind, place, start, end, arrow):
    """Return the inverse of an arrow."""
    groupoid = groupoid_of(context, kind, place)
    check_ends(groupoid, (start, end), 2)
    check_arrow(groupoid, start, end, arrow)
    return groupoid.inverse(start, end, arrow)


def identity(context, kind, place, thing):
    """Return the identity of an object."""
    groupoid = groupoid_of(context, kind, place)
    check_thing(groupoid, thing)
    return groupoid.identity(thing)


def act(context, kind, start, end, step, thing):
    """Return the object that the action of a step makes of an object."""
    return action_of(context, kind, start, end, step, (thing,), 1).image(thing)


def act_arrow(context, kind, start, end, step, ends, arrow):
    """Return the arrow that the action of a step makes of an arrow between the two ends."""
    action = action_of(context, kind, start, end, step, ends, 2)
    check_arrow(action.source, ends[0], ends[1], arrow)
    return action.image_link(ends[0], ends[1], arrow)


def equal_types(context, first, second):
    """Tell whether two types of a context are equal."""
    entry = Entry(context, MOST)
    one = entry.read_kind(first)
    return equal_kinds(entry.world, entry.scope, one, entry.read_kind(second))


def is_flat(context, kind):
    """Tell whether a type is flat in a context."""
    entry = Entry(context, MOST)
    return flat_kind(entry.world, entry.scope, entry.read_kind(kind))
