"""The object of a term at a place, by the words of point 13."""

from isthmus.paths import resting, with_spot


def name_value(world, term, spots):
    """The part of the place."""
    return spots[term.parts[0]][0]


def second_part(world, term, spots):
    """The integer told behind another one, for points and sizes."""
    return term.parts[1]


def case_value(world, term, spots):
    """The object of the branch that the index chooses."""
    return world.value(chosen_branch(world, term, spots), spots)


def chosen_branch(world, term, spots):
    """Return the branch that the index chooses at a place."""
    return term.parts[4][world.value(term.parts[3], spots)]


def code_value(world, term, spots):
    """The number of objects."""
    return len(world.groupoid(term.parts[1], spots).objects_here())


def index_value(world, term, spots):
    """The position of an object."""
    return world.groupoid(term.parts[1], spots).objects_here().index(world.value(term.parts[2], spots))


def item_value(world, term, spots):
    """The object with a position."""
    return world.groupoid(term.parts[1], spots).objects_here()[world.value(term.parts[2], spots)]


def pair_value(world, term, spots):
    """The pair of two objects."""
    return (world.value(term.parts[3], spots), world.value(term.parts[4], spots))


def first_value(world, term, spots):
    """The first part of a pair."""
    return world.value(term.parts[3], spots)[0]


def second_value(world, term, spots):
    """The second part of a pair."""
    return world.value(term.parts[3], spots)[1]


def fun_value(world, term, spots):
    """The map that a term makes of each object and each arrow."""
    name, left, _, body = term.parts
    base = world.groupoid(left, spots)
    frame = base.frame()
    values = [world.value(body, with_spot(spots, name, (thing, base))) for thing in frame.rows]
    arrows = []
    for source, target, arrow in frame.lines:
        path = resting(spots).extended(name, (frame.rows[source], base), (frame.rows[target], base), arrow)
        arrows.append(world.along(body, path))
    return (tuple(values), tuple(arrows))


def maps_at(world, term, spots):
    """Return the groupoid of the maps that "app" and "open" apply."""
    return world.groupoid(world.node("maps", term.parts[:3]), spots)


def app_value(world, term, spots):
    """The object of a map at an object."""
    thing = world.value(term.parts[3], spots)
    return maps_at(world, term, spots).value_at(thing, world.value(term.parts[4], spots))


def opened_value(world, term, spots):
    """The object of a map at the part of the place."""
    thing = world.value(term.parts[3], spots)
    return maps_at(world, term, spots).value_at(thing, spots[term.parts[0]][0])


def stay_value(world, term, spots):
    """The identity of an object."""
    return world.groupoid(term.parts[0], spots).identity(world.value(term.parts[1], spots))


def back_value(world, term, spots):
    """The inverse of an arrow."""
    kind, first, second, way = term.parts
    ends = [world.value(part, spots) for part in (first, second)]
    return world.groupoid(kind, spots).inverse(ends[0], ends[1], world.value(way, spots))


def join_value(world, term, spots):
    """The composite of two arrows."""
    kind = term.parts[0]
    first, second, third, one, two = [world.value(part, spots) for part in term.parts[1:]]
    return world.groupoid(kind, spots).compose(first, second, third, one, two)


def along_way(world, spots, name, kind, ends):
    """Return the step that rests at a place and goes with one more name along an arrow.

    ends are the terms of the two objects and of the arrow between them.
    """
    base = world.groupoid(kind, spots)
    first, second, arrow = [world.value(part, spots) for part in ends]
    return resting(spots).extended(name, (first, base), (second, base), arrow)


def led_value(world, term, spots):
    """The arrow of a term along an arrow."""
    path = along_way(world, spots, term.parts[0], term.parts[1], term.parts[4:])
    return world.along(term.parts[3], path)


def carry_value(world, term, spots):
    """The object to which an object is carried along an arrow."""
    path = along_way(world, spots, term.parts[0], term.parts[1], term.parts[3:6])
    return world.action(term.parts[2], path).image(world.value(term.parts[6], spots))


def pairway_value(world, term, spots):
    """The pair of two arrows."""
    return (world.value(term.parts[5], spots), world.value(term.parts[6], spots))


def mapway_value(world, term, spots):
    """The tuple of the arrows at all objects."""
    name, left, _, _, _, body = term.parts
    base = world.groupoid(left, spots)
    return tuple([world.value(body, with_spot(spots, name, (thing, base))) for thing in base.objects_here()])


def exchange_value(world, term, spots):
    """The permutation that a map makes."""
    return world.value(term.parts[4], spots)[0]


def any_value(world, term, spots):
    """1 if there is an object, otherwise 0."""
    return min(1, len(world.groupoid(term.parts[0], spots).objects_here()))


def only_value(world, term, spots):
    """The one object."""
    return world.groupoid(term.parts[0], spots).objects_here()[0]


def class_value(world, term, spots):
    """The least object of the class."""
    return world.groupoid(term.parts[0], spots).least(world.value(term.parts[1], spots))


def eachclass_value(world, term, spots):
    """The object that a term makes of the least object of a class."""
    name, left, _, body, part = term.parts
    spot = (world.value(part, spots), world.groupoid(left, spots))
    return world.value(body, with_spot(spots, name, spot))


def left_value(world, term, spots):
    """The object, marked as one of the first side."""
    return (0, world.value(term.parts[2], spots))


def right_value(world, term, spots):
    """The object, marked as one of the second side."""
    return (1, world.value(term.parts[2], spots))


def split_value(world, term, spots):
    """The object that the term of the side makes of the object there."""
    side, thing = world.value(term.parts[8], spots)
    name, body = split_side(term, side)
    base = world.groupoid(term.parts[1 + side], spots)
    return world.value(body, with_spot(spots, name, (thing, base)))


def split_side(term, side):
    """Return the name and the term of one side of a split."""
    return term.parts[4 + 2 * side:6 + 2 * side]


def given_value(world, term, spots):
    """The object that a term makes of an object."""
    name, left, part, body = term.parts
    spot = (world.value(part, spots), world.groupoid(left, spots))
    return world.value(body, with_spot(spots, name, spot))


VALUES = {
    "name": name_value,
    "point": second_part,
    "case": case_value,
    "size": second_part,
    "code": code_value,
    "index": index_value,
    "item": item_value,
    "pair": pair_value,
    "first": first_value,
    "second": second_value,
    "fun": fun_value,
    "app": app_value,
    "open": opened_value,
    "stay": stay_value,
    "back": back_value,
    "join": join_value,
    "led": led_value,
    "carry": carry_value,
    "pairway": pairway_value,
    "mapway": mapway_value,
    "exchange": exchange_value,
    "any": any_value,
    "only": only_value,
    "class": class_value,
    "eachclass": eachclass_value,
    "left": left_value,
    "right": right_value,
    "split": split_value,
    "given": given_value,
}


def find_value(world, term, spots):
    """Return the object of a term at a place."""
    find = VALUES[term.word]
    return find(world, term, spots)
