"""Places and steps of a context, by name.

A place is kept as "spots": a dict from each name to the pair of its object and the groupoid of this object.
"""


def key_of(data):
    """Return a key for an object or arrow; tuples may be nested deeper than a key may be, so they go by text."""
    if isinstance(data, int):
        return data
    return repr(data)


def with_spot(spots, name, spot):
    """Return the place with one more name; it hides an outer one of this name."""
    longer = dict(spots)
    longer[name] = spot
    return longer


def place_key(names, spots):
    """Return a key for what a place tells of some names."""
    return repr([spots[name][0] for name in names])


def stands_still(first, second, arrow):
    """Tell whether an arrow between two spots is the identity, at the one as at the other."""
    if first[0] != second[0] or arrow != second[1].identity(second[0]):
        return False
    return first[1] == second[1] or arrow == first[1].identity(first[0])


class Path:
    """A step: the places that it joins, and the arrows of the names that do not stand still."""

    def __init__(self, start, end, parts):
        self.start = start
        self.end = end
        self.parts = parts

    def part(self, name):
        """Return the arrow that belongs to a name."""
        if name in self.parts:
            return self.parts[name]
        thing, groupoid = self.end[name]
        return groupoid.identity(thing)

    def touches(self, names):
        """Tell whether one of the names does not stand still."""
        return any([name in self.parts for name in names])

    def path_key(self, names):
        """Return a key for what the step tells of some names."""
        rows = []
        for name in names:
            if name in self.parts:
                rows.append((self.start[name][0], self.end[name][0], self.parts[name]))
            else:
                rows.append((self.start[name][0],))
        return repr(rows)

    def extended(self, name, first, second, arrow):
        """Return the step with one more name, from one spot to another one along an arrow."""
        parts = {other: self.parts[other] for other in self.parts if other != name}
        if not stands_still(first, second, arrow):
            parts[name] = arrow
        return Path(with_spot(self.start, name, first), with_spot(self.end, name, second), parts)

    def carried(self, name, thing, action):
        """Return the step with one more name, along an identity from what the action makes of an object."""
        end = action.image(thing)
        arrow = action.target.identity(end)
        return self.extended(name, (thing, action.source), (end, action.target), arrow)


def resting(spots):
    """Return the identity step of a place."""
    return Path(spots, spots, {})
