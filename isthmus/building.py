"""The groupoid of a type at a place, and its action along a step, by the words of point 10 (but "at")."""

from isthmus.actions import ClassesAction, Shuffle, SumAction, WaysAction
from isthmus.families import Family, Sweep
from isthmus.groupoids import Classes, Sizes, Sum, Ways
from isthmus.mappings import Maps, MapsAction
from isthmus.pairings import Pairs, PairsAction


def set_groupoid(world, kind, spots):
    """Return the groupoid of a set."""
    return world.span(kind.parts[0])


def sizes_groupoid(world, kind, spots):
    """Return the groupoid of sizes."""
    return Sizes(world.most, kind.parts[0])


def of_groupoid(world, kind, spots):
    """Return the groupoid of the points of a size."""
    return world.span(world.value(kind.parts[1], spots))


def family_of(world, kind, spots):
    """Return the family that a type of pairs or maps tells."""
    name, left, right = kind.parts
    return Family(world, name, world.groupoid(left, spots), right, spots)


def pairs_groupoid(world, kind, spots):
    """Return the groupoid of pairs."""
    return Pairs(world.most, family_of(world, kind, spots))


def maps_groupoid(world, kind, spots):
    """Return the groupoid of maps."""
    return Maps(world.most, family_of(world, kind, spots))


def ways_groupoid(world, kind, spots):
    """Return the groupoid of the arrows between two terms."""
    base, start, end = kind.parts
    return Ways(world.most, world.groupoid(base, spots), world.value(start, spots), world.value(end, spots))


def either_groupoid(world, kind, spots):
    """Return the groupoid of two types side by side."""
    return Sum(world.most, world.groupoid(kind.parts[0], spots), world.groupoid(kind.parts[1], spots))


def classes_groupoid(world, kind, spots):
    """Return the groupoid of classes."""
    return Classes(world.most, world.groupoid(kind.parts[0], spots))


GROUPOIDS = {
    "set": set_groupoid,
    "sizes": sizes_groupoid,
    "of": of_groupoid,
    "pairs": pairs_groupoid,
    "maps": maps_groupoid,
    "ways": ways_groupoid,
    "either": either_groupoid,
    "classes": classes_groupoid,
}


def build_groupoid(world, kind, spots):
    """Return the groupoid of a type at a place."""
    build = GROUPOIDS[kind.word]
    return build(world, kind, spots)


def of_action(world, kind, path, source, target):
    """Return the action on the points of a size."""
    return Shuffle(source, target, world.along(kind.parts[1], path))


def sweep_of(world, kind, path):
    """Return the sweep of the family that a type of pairs or maps tells."""
    name, left, right = kind.parts
    return Sweep(world, name, world.action(left, path), right, path)


def pairs_action(world, kind, path, source, target):
    """Return the action on pairs."""
    return PairsAction(source, target, sweep_of(world, kind, path))


def maps_action(world, kind, path, source, target):
    """Return the action on maps."""
    return MapsAction(source, target, sweep_of(world, kind, path))


def ways_action(world, kind, path, source, target):
    """Return the action on the arrows between two terms."""
    base, start, end = kind.parts
    return WaysAction(source, target, world.action(base, path), world.along(start, path), world.along(end, path))


def either_action(world, kind, path, source, target):
    """Return the action on two types side by side."""
    first, second = kind.parts
    return SumAction(source, target, world.action(first, path), world.action(second, path))


def classes_action(world, kind, path, source, target):
    """Return the action on classes."""
    return ClassesAction(source, target, world.action(kind.parts[0], path))


ACTIONS = {
    "of": of_action,
    "pairs": pairs_action,
    "maps": maps_action,
    "ways": ways_action,
    "either": either_action,
    "classes": classes_action,
}


def build_action(world, kind, path):
    """Return the action of a type that depends on what the step moves."""
    build = ACTIONS[kind.word]
    return build(world, kind, path, world.groupoid(kind, path.start), world.groupoid(kind, path.end))
