"""The arrow of a term along a step, by the words of point 13."""

from isthmus.paths import key_of
from isthmus.values import along_way, chosen_branch, maps_at, split_side


def no_arrow(world, term, path):
    """The one arrow of a discrete type whose identities are ()."""
    return ()


def name_arrow(world, term, path):
    """The part of the step."""
    return path.part(term.parts[0])


def case_arrow(world, term, path):
    """The arrow of the branch that the index chooses."""
    return world.along(chosen_branch(world, term, path.start), path)


def size_arrow(world, term, path):
    """The identity of the size."""
    return tuple(range(term.parts[1]))


def code_arrow(world, term, path):
    """The permutation that the action makes of the positions."""
    action = world.action(term.parts[1], path)
    there = action.target.objects_here()
    rank = {key_of(thing): at for at, thing in enumerate(there)}
    return tuple([rank[key_of(action.image(thing))] for thing in action.source.objects_here()])


def rest_arrow(world, kind, term, path):
    """Return the identity, in a type, of the object of a term behind the step."""
    return world.groupoid(kind, path.end).identity(world.value(term, path.end))


def item_arrow(world, term, path):
    """The identity of the object."""
    return rest_arrow(world, term.parts[1], term, path)


def pair_arrow(world, term, path):
    """The pair of two arrows."""
    return (world.along(term.parts[3], path), world.along(term.parts[4], path))


def first_arrow(world, term, path):
    """The first part of the arrow of a pair."""
    return world.along(term.parts[3], path)[0]


def second_arrow(world, term, path):
    """The second part of the arrow of a pair."""
    return world.along(term.parts[3], path)[1]


def fun_arrow(world, term, path):
    """The arrow at each object, that of the term along the step with an identity."""
    name, left, _, body = term.parts
    action = world.action(left, path)
    there = action.target.objects_here()
    rank = {key_of(thing): at for at, thing in enumerate(there)}
    found = {}
    for thing in action.source.objects_here():
        found[rank[key_of(action.image(thing))]] = world.along(body, path.carried(name, thing, action))
    return tuple([found[at] for at in range(len(there))])


def map_arrow(world, term, path, ends, arrow):
    """Return the arrow of an applied map: ends are what it is applied to ahead of and behind the step."""
    name, left, right, function = term.parts[:4]
    action = world.action(left, path)
    middle = action.image(ends[0])
    ahead = maps_at(world, term, path.start).value_at(world.value(function, path.start), ends[0])
    near = world.action(right, path.carried(name, ends[0], action)).image(ahead)
    maps = maps_at(world, term, path.end)
    thing = world.value(function, path.end)
    far = maps.value_at(thing, middle)
    link = world.along(function, path)[maps.frame_below.rank[key_of(middle)]]
    shift = maps.family.shift(middle, ends[1], arrow)
    fibre = maps.family.over(ends[1])
    last = maps.arrow_at(thing, middle, ends[1], arrow)
    end = maps.value_at(thing, ends[1])
    return fibre.compose(shift.image(near), shift.image(far), end, shift.image_link(near, far, link), last)


def app_arrow(world, term, path):
    """The arrow of a map at an object."""
    part = term.parts[4]
    ends = (world.value(part, path.start), world.value(part, path.end))
    return map_arrow(world, term, path, ends, world.along(part, path))


def opened_arrow(world, term, path):
    """The arrow of a map at the part of the step."""
    name = term.parts[0]
    return map_arrow(world, term, path, (path.start[name][0], path.end[name][0]), path.part(name))


def carry_arrow(world, term, path):
    """The arrow to which the arrow of what is carried is carried behind the step."""
    name, left, right, start, _, _, body = term.parts
    shift = world.action(right, along_way(world, path.end, name, left, term.parts[3:6]))
    moved = world.action(right, world.with_term(path, name, left, start))
    first = moved.image(world.value(body, path.start))
    return shift.image_link(first, world.value(body, path.end), world.along(body, path))


def only_arrow(world, term, path):
    """The identity of the one object."""
    return rest_arrow(world, term.parts[0], term, path)


def eachclass_arrow(world, term, path):
    """The identity of the object."""
    return rest_arrow(world, term.parts[2], term, path)


def side_arrow(world, term, path):
    """The arrow of what is marked with a side."""
    return world.along(term.parts[2], path)


def split_arrow(world, term, path):
    """The arrow that the term of the side makes of the arrow there."""
    part = term.parts[8]
    side, first = world.value(part, path.start)
    second = world.value(part, path.end)[1]
    kind = term.parts[1 + side]
    name, body = split_side(term, side)
    here = (first, world.groupoid(kind, path.start))
    there = (second, world.groupoid(kind, path.end))
    return world.along(body, path.extended(name, here, there, world.along(part, path)))


def given_arrow(world, term, path):
    """The arrow that a term makes of an arrow."""
    name, left, part, body = term.parts
    return world.along(body, world.with_term(path, name, left, part))


TRACKS = {
    "name": name_arrow,
    "point": no_arrow,
    "case": case_arrow,
    "size": size_arrow,
    "code": code_arrow,
    "index": no_arrow,
    "item": item_arrow,
    "pair": pair_arrow,
    "first": first_arrow,
    "second": second_arrow,
    "fun": fun_arrow,
    "app": app_arrow,
    "open": opened_arrow,
    "stay": no_arrow,
    "back": no_arrow,
    "join": no_arrow,
    "led": no_arrow,
    "carry": carry_arrow,
    "pairway": no_arrow,
    "mapway": no_arrow,
    "exchange": no_arrow,
    "any": no_arrow,
    "only": only_arrow,
    "class": no_arrow,
    "eachclass": eachclass_arrow,
    "left": side_arrow,
    "right": side_arrow,
    "split": split_arrow,
    "given": given_arrow,
}


def find_arrow(world, term, path):
    """Return the arrow of a term along a step."""
    find = TRACKS[term.word]
    return find(world, term, path)
