"""Groupoids, and those of them that are given by short rules."""

from itertools import permutations

from isthmus.errors import TooLarge
from isthmus.frames import Frame
from isthmus.paths import key_of


class Groupoid:
    """What all groupoids can do; most is the greatest number of objects or arrows that are listed.

    Each kind of groupoid tells objects_here() and has(thing); fan(thing), the ascending list of the pairs
    (target, arrow) of the arrows from an object; has_link(start, end, arrow); compose(start, middle, end,
    first, second); inverse(start, end, arrow) and identity(thing). Nobody changes the lists that these return.
    """

    def __init__(self, most):
        self.most = most
        self.shape = None
        self.leasts = {}
        self.agreed = {}

    def frame(self):
        """Return the groupoid written out."""
        if self.shape is None:
            self.shape = Frame(self)
        return self.shape

    def samples(self):
        """Return some of the objects, unlike each other; where all are too many to list, these may be not."""
        return self.objects_here()

    def links(self, start, end):
        """Return the ascending list of the arrows between two objects."""
        return [arrow for target, arrow in self.fan(start) if target == end]

    def degree(self, thing):
        """Return the number of arrows from an object."""
        return len(self.fan(thing))

    def least(self, thing):
        """Return the least object of the class of an object."""
        key = key_of(thing)
        if key not in self.leasts:
            fan = self.fan(thing)
            for end, _ in fan:
                self.leasts[key_of(end)] = fan[0][0]
        return self.leasts[key]

    def is_discrete(self):
        """Tell whether there are no arrows but the identities."""
        return self.only_identities(self.objects_here())

    def only_identities(self, things):
        """Tell whether no arrows but the identities go from these objects."""
        for thing in things:
            if self.degree(thing) > 1:
                return False
        return True

    def limited(self, rows):
        """Return the rows, or raise TooLarge if there are too many."""
        if len(rows) > self.most:
            raise TooLarge("too many objects or arrows")
        return rows


class Discrete(Groupoid):
    """A groupoid with the arrows () from each object to itself alone."""

    def fan(self, thing):
        """Return the arrows from an object."""
        return [(thing, ())]

    def links(self, start, end):
        """Return the arrows between two objects."""
        return [()] if start == end else []

    def has_link(self, start, end, arrow):
        """Tell whether it is an arrow between the objects."""
        return start == end and arrow == ()

    def compose(self, start, middle, end, first, second):
        """Return the composite."""
        return ()

    def inverse(self, start, end, arrow):
        """Return the inverse."""
        return ()

    def identity(self, thing):
        """Return the identity."""
        return ()

    def is_discrete(self):
        """Tell that it is discrete."""
        return True


class Span(Discrete):
    """The objects from 0 to many - 1."""

    def __init__(self, most, many):
        Discrete.__init__(self, most)
        self.many = many

    def objects_here(self):
        """Return the objects."""
        return list(range(self.many))

    def has(self, thing):
        """Tell whether it is an object."""
        return isinstance(thing, int) and 0 <= thing < self.many


class Ways(Discrete):
    """The arrows of a groupoid between two objects."""

    def __init__(self, most, base, start, end):
        Discrete.__init__(self, most)
        self.base = base
        self.start = start
        self.end = end
        self.rows = None

    def objects_here(self):
        """Return the objects."""
        if self.rows is None:
            self.rows = self.limited(self.base.links(self.start, self.end))
        return self.rows

    def has(self, thing):
        """Tell whether it is an object."""
        return self.base.has_link(self.start, self.end, thing)


class Classes(Discrete):
    """The least objects of the classes of a groupoid."""

    def __init__(self, most, base):
        Discrete.__init__(self, most)
        self.base = base
        self.rows = None

    def objects_here(self):
        """Return the objects."""
        if self.rows is None:
            base = self.base
            self.rows = [thing for thing in base.objects_here() if base.least(thing) == thing]
        return self.rows

    def has(self, thing):
        """Tell whether it is an object."""
        return self.base.has(thing) and self.base.least(thing) == thing


class Sizes(Groupoid):
    """The sizes from 0 to top, with the permutations of as many points."""

    def __init__(self, most, top):
        Groupoid.__init__(self, most)
        self.top = top

    def objects_here(self):
        """Return the objects."""
        return list(range(self.top + 1))

    def has(self, thing):
        """Tell whether it is an object."""
        return isinstance(thing, int) and 0 <= thing <= self.top

    def fan(self, thing):
        """Return the arrows from an object."""
        return [(thing, arrow) for arrow in permutations(range(thing))]

    def has_link(self, start, end, arrow):
        """Tell whether it is an arrow between the objects."""
        if start != end or not isinstance(arrow, tuple) or len(arrow) != start:
            return False
        return all([point in arrow for point in range(start)])

    def compose(self, start, middle, end, first, second):
        """Return the composite."""
        return tuple([second[point] for point in first])

    def inverse(self, start, end, arrow):
        """Return the inverse."""
        return tuple([arrow.index(point) for point in range(start)])

    def identity(self, thing):
        """Return the identity."""
        return tuple(range(thing))


class Sum(Groupoid):
    """Two groupoids side by side: (0, a) for the objects of the first, (1, b) for those of the second."""

    def __init__(self, most, first, second):
        Groupoid.__init__(self, most)
        self.sides = (first, second)

    def objects_here(self):
        """Return the objects."""
        rows = []
        for side in (0, 1):
            rows.extend([(side, thing) for thing in self.sides[side].objects_here()])
        return self.limited(rows)

    def samples(self):
        """Return some of the objects."""
        rows = []
        for side in (0, 1):
            rows.extend([(side, thing) for thing in self.sides[side].samples()])
        return rows

    def has(self, thing):
        """Tell whether it is an object."""
        if not isinstance(thing, tuple) or len(thing) != 2 or thing[0] not in (0, 1):
            return False
        return self.sides[thing[0]].has(thing[1])

    def fan(self, thing):
        """Return the arrows from an object."""
        side, part = thing
        return [((side, end), arrow) for end, arrow in self.sides[side].fan(part)]

    def links(self, start, end):
        """Return the arrows between two objects."""
        if start[0] != end[0]:
            return []
        return self.sides[start[0]].links(start[1], end[1])

    def has_link(self, start, end, arrow):
        """Tell whether it is an arrow between the objects."""
        return start[0] == end[0] and self.sides[start[0]].has_link(start[1], end[1], arrow)

    def compose(self, start, middle, end, first, second):
        """Return the composite."""
        return self.sides[start[0]].compose(start[1], middle[1], end[1], first, second)

    def inverse(self, start, end, arrow):
        """Return the inverse."""
        return self.sides[start[0]].inverse(start[1], end[1], arrow)

    def identity(self, thing):
        """Return the identity."""
        return self.sides[thing[0]].identity(thing[1])
