"""Contexts: their places, and the steps between these."""

from isthmus.entry import Entry
from isthmus.errors import BadPlace
from isthmus.scopes import inverse_path, joined_path, paths_between, place_of, scope_spots, step_of

MOST = 520


def places(context):
    """Return the ascending list of the places of a context."""
    entry = Entry(context, MOST)
    return [place_of(entry.scope, spots) for spots in scope_spots(entry.world, entry.scope)]


def steps(context, start, end):
    """Return the ascending list of the steps between two places."""
    entry = Entry(context, MOST)
    first = entry.read_place(start)
    second = entry.read_place(end)
    return [step_of(entry.scope, path) for path in paths_between(entry.world, entry.scope, first, second)]


def join_steps(context, places, first, second):
    """Return the composite of two steps, first and then second; places are the three that they join."""
    entry = Entry(context, MOST)
    if not isinstance(places, tuple) or len(places) != 3:
        raise BadPlace("three places are joined")
    start, middle, end = [entry.read_place(place) for place in places]
    one = entry.read_step(start, middle, first)
    two = entry.read_step(middle, end, second)
    return step_of(entry.scope, joined_path(entry.world, entry.scope, one, two))


def back_step(context, start, end, step):
    """Return the inverse of a step."""
    entry = Entry(context, MOST)
    first = entry.read_place(start)
    second = entry.read_place(end)
    path = entry.read_step(first, second, step)
    return step_of(entry.scope, inverse_path(entry.world, entry.scope, path))


def stay_step(context, place):
    """Return the identity of a place."""
    entry = Entry(context, MOST)
    spots = entry.read_place(place)
    return tuple([groupoid.identity(thing) for thing, groupoid in [spots[name] for name in entry.scope.names()]])
