"""Closed types: their classes and masses, the equivalences between them; and all that terms of a type could mean."""

from math import gcd

from isthmus.contexts import MOST
from isthmus.entry import Entry, check_thing
from isthmus.groups import Group, isomorphism
from isthmus.mappings import Maps
from isthmus.paths import key_of
from isthmus.stepping import Spread


def closed_groupoid(kind):
    """Check a closed type; return its groupoid."""
    entry = Entry((), MOST)
    return entry.world.groupoid(entry.read_kind(kind), {})


def classes(kind):
    """Return the least object of each class, with the number of arrows from it to itself."""
    frame = closed_groupoid(kind).frame()
    return [(frame.rows[block.root], len(block.loops)) for block in frame.blocks()]


def mass(kind):
    """Return the mass of a closed type, as a fraction in lowest terms."""
    top = 0
    low = 1
    for _, many in classes(kind):
        top = top * many + low
        low = low * many
        common = gcd(top, low)
        top = top // common
        low = low // common
    return (top, low)


def way(kind, start, end):
    """Return the least arrow between two objects, or None."""
    groupoid = closed_groupoid(kind)
    check_thing(groupoid, start)
    check_thing(groupoid, end)
    links = groupoid.links(start, end)
    return links[0] if links else None


def equivalence(first, second):
    """Return an equivalence from a closed type to another one, or None."""
    one = closed_groupoid(first).frame()
    two = closed_groupoid(second).frame()
    if len(one.blocks()) != len(two.blocks()):
        return None
    values = [()] * len(one.rows)
    arrows = [()] * len(one.lines)
    left = [(block, Group(block)) for block in two.blocks()]
    for block in one.blocks():
        found = like_block(Group(block), left)
        if found is None:
            return None
        at, images = found
        other = left.pop(at)[0]
        for member in block.members:
            values[member] = two.rows[other.root]
        for position, _, _, turn in block.twists():
            arrows[position] = other.loops[images[turn]]
    return (tuple(values), tuple(arrows))


def like_block(group, rows):
    """Return the position of the first row with an isomorphic group, and an isomorphism to this group; or None."""
    for at, (_, other) in enumerate(rows):
        images = isomorphism(group, other)
        if images is not None:
            return (at, images)
    return None


def is_equivalence(first, second, value):
    """Tell whether a value is an equivalence from a closed type to another one."""
    entry = Entry((), MOST)
    one = entry.read_kind(first)
    two = entry.read_kind(second)
    # Any name would do: what is closed does not speak of it.
    maps = entry.world.groupoid(entry.world.node("maps", ("x", one, two)), {})
    if not maps.has(value):
        return False
    there = entry.world.groupoid(two, {})
    blocks = maps.frame_below.blocks()
    ends = [there.least(value[0][block.root]) for block in blocks]
    if sorted(ends) != [thing for thing in there.objects_here() if there.least(thing) == thing]:
        return False
    return all([keeps_loops(maps, block, value, there) for block in blocks])


def keeps_loops(maps, block, value, there):
    """Tell whether a map takes the loops of a block to all arrows from an object to itself, each of these once."""
    thing = value[0][block.root]
    root = maps.frame_below.rows[block.root]
    images = {key_of(maps.arrow_at(value, root, root, loop)): True for loop in block.loops}
    return len(images) == len(block.loops) == len(there.links(thing, thing))


def sections(context, kind):
    """Return all that point 8 allows as the meaning of a term of a type: its objects and its arrows, ascending."""
    entry = Entry(context, MOST)
    node = entry.read_kind(kind)
    return list(Maps(MOST, Spread(entry.world, entry.scope, node)).objects_here())
