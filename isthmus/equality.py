"""Whether types mean the same in a context, and whether they are flat there (points 11 and 12)."""

from isthmus.actions import Still
from isthmus.errors import TooLarge
from isthmus.groupoids import Sum
from isthmus.likeness import surely_same
from isthmus.mappings import Maps, MapsAction
from isthmus.pairings import Pairs, PairsAction
from isthmus.scopes import scope_paths, scope_spots


def equal_kinds(world, scope, first, second):
    """Tell whether two types of a context are equal."""
    key = (first, second)
    if key not in scope.equal_pairs:
        scope.equal_pairs[key] = surely_same(first, second) or agree_everywhere(world, scope, first, second)
    return scope.equal_pairs[key]


def equal_meanings(world, scope, first, second):
    """Tell whether two terms of equal types are the same at each place and along each step.

    If they are so along the steps of a generating row, they are along the inverses and composites of these.
    """
    if surely_same(first, second):
        return True
    for spots in scope_spots(world, scope):
        if world.value(first, spots) != world.value(second, spots):
            return False
    for path in scope_paths(world, scope):
        if path.touches(first.free) or path.touches(second.free):
            if world.along(first, path) != world.along(second, path):
                return False
    return True


def agree_everywhere(world, scope, first, second):
    """Tell whether two types are the same at each place, and act alike along each step.

    If they act alike along the steps of a generating row, they do so along the inverses and composites of these.
    """
    for spots in scope_spots(world, scope):
        if not same_groupoid(world.groupoid(first, spots), world.groupoid(second, spots)):
            return False
    for path in scope_paths(world, scope):
        if path.touches(first.free) or path.touches(second.free):
            if not same_action(world.action(first, path), world.action(second, path)):
                return False
    return True


def same_groupoid(first, second):
    """Tell whether two groupoids have the same objects, arrows and composites."""
    if first == second:
        return True
    if second not in first.agreed:
        made = made_alike(first, second)
        first.agreed[second] = made or (same_lists(first, second) and same_composites(first, second))
    return first.agreed[second]


def made_alike(first, second):
    """Tell whether two groupoids are made in one way of the same groupoids.

    This spares listing all pairs or maps, which may be many; if it does not hold, they may be the same nevertheless.
    """
    if isinstance(first, Pairs) and isinstance(second, Pairs):
        return same_family(first.family, second.family)
    if isinstance(first, Maps) and isinstance(second, Maps):
        return same_family(first.family, second.family)
    if isinstance(first, Sum) and isinstance(second, Sum):
        return all([same_groupoid(one, two) for one, two in zip(first.sides, second.sides)])
    return False


def same_family(first, second):
    """Tell whether two families are the same over the same base; generating arrows show it for all."""
    if not same_groupoid(first.base, second.base):
        return False
    frame = first.base.frame()
    for thing in frame.rows:
        if not same_groupoid(first.over(thing), second.over(thing)):
            return False
    for source, target, arrow in frame.generators():
        start = frame.rows[source]
        end = frame.rows[target]
        if not same_action(first.shift(start, end, arrow), second.shift(start, end, arrow)):
            return False
    return True


def same_lists(first, second):
    """Tell whether two groupoids have the same objects and the same arrows between them."""
    try:
        things = first.objects_here()
        others = second.objects_here()
    except TooLarge:
        if samples_outside(first, second) or samples_outside(second, first):
            return False
        raise
    if things != others:
        return False
    return all([first.fan(thing) == second.fan(thing) for thing in things])


def samples_outside(first, second):
    """Tell whether an object of the first groupoid, taken as a sample, is none of the second one.

    So groupoids that are too large to be listed are told apart where one object shows a difference.
    """
    return not all([second.has(thing) for thing in first.samples()])


def same_composites(first, second):
    """Tell whether two groupoids with the same arrows have the same composites.

    If they agree on all composites with the arrows of a generating row behind, they agree on those with inverses of
    these behind, and so on all.
    """
    if first.is_discrete():
        return True
    frame = first.frame()
    into = [[] for _ in frame.rows]
    for source, target, arrow in frame.lines:
        into[target].append((frame.rows[source], arrow))
    for source, target, arrow in frame.generators():
        middle = frame.rows[source]
        end = frame.rows[target]
        for start, before in into[source]:
            one = first.compose(start, middle, end, before, arrow)
            if one != second.compose(start, middle, end, before, arrow):
                return False
    return True


def same_action(first, second):
    """Tell whether two actions make the same of everything; they go from one groupoid to one other."""
    if first == second or (isinstance(first, Still) and isinstance(second, Still)):
        return True
    if second not in first.agreed:
        first.agreed[second] = moved_alike(first, second) or same_images(first, second)
    return first.agreed[second]


def moved_alike(first, second):
    """Tell whether two actions are made in one way of the same actions; it spares what made_alike spares."""
    pairs = isinstance(first, PairsAction) and isinstance(second, PairsAction)
    maps = isinstance(first, MapsAction) and isinstance(second, MapsAction)
    if not pairs and not maps:
        return False
    if not same_part(first.sweep.base, second.sweep.base):
        return False
    things = first.sweep.base.source.objects_here()
    return all([same_part(first.sweep.lift(thing), second.sweep.lift(thing)) for thing in things])


def same_part(first, second):
    """Tell whether two actions go from one groupoid to one other, and make the same of everything there."""
    if not same_groupoid(first.source, second.source) or not same_groupoid(first.target, second.target):
        return False
    return same_action(first, second)


def same_images(first, second):
    """Tell whether two actions make the same of all objects and of a generating row of arrows."""
    source = first.source
    for thing in source.objects_here():
        if first.image(thing) != second.image(thing):
            return False
    if source.is_discrete():
        return True
    frame = source.frame()
    for start, end, arrow in frame.generators():
        one = first.image_link(frame.rows[start], frame.rows[end], arrow)
        if one != second.image_link(frame.rows[start], frame.rows[end], arrow):
            return False
    return True


def surely_flat(kind):
    """Tell whether the words of a type alone make it flat."""
    if kind.word in ("set", "of", "ways", "classes"):
        return True
    if kind.word == "sizes":
        return kind.parts[0] <= 1
    if kind.word in ("pairs", "either"):
        return surely_flat(kind.parts[-2]) and surely_flat(kind.parts[-1])
    return surely_flat(kind.parts[-1])


def flat_kind(world, scope, kind):
    """Tell whether a type is flat in a context."""
    if surely_flat(kind):
        return True
    for spots in scope_spots(world, scope):
        if not world.groupoid(kind, spots).is_discrete():
            return False
    return True
