"""The groupoids of pairs, and their actions."""

from isthmus.actions import Action
from isthmus.groupoids import Groupoid
from isthmus.paths import key_of


class Pairs(Groupoid):
    """Pairs of an object of the base and an object over it."""

    def __init__(self, most, family):
        Groupoid.__init__(self, most)
        self.family = family
        self.base = family.base
        self.rows = None
        self.fans = {}

    def objects_here(self):
        """Return the objects."""
        if self.rows is None:
            rows = []
            for thing in self.base.objects_here():
                rows.extend([(thing, other) for other in self.family.over(thing).objects_here()])
                self.limited(rows)
            self.rows = rows
        return self.rows

    def samples(self):
        """Return some of the objects: those over the first object that has some."""
        for thing in self.base.objects_here():
            rows = [(thing, other) for other in self.family.over(thing).samples()]
            if rows:
                return rows
        return []

    def has(self, thing):
        """Tell whether it is an object."""
        if not isinstance(thing, tuple) or len(thing) != 2 or not self.base.has(thing[0]):
            return False
        return self.family.over(thing[0]).has(thing[1])

    def shifted(self, start, end, arrow):
        """Return the second part of a pair, brought over the first part of another one."""
        return self.family.shift(start[0], end, arrow).image(start[1])

    def fan(self, thing):
        """Return the arrows from an object."""
        key = key_of(thing)
        if key not in self.fans:
            rows = []
            for end, arrow in self.base.fan(thing[0]):
                moved = self.shifted(thing, end, arrow)
                fan = self.family.over(end).fan(moved)
                rows.extend([((end, other), (arrow, link)) for other, link in fan])
                self.limited(rows)
            self.fans[key] = sorted(rows)
        return self.fans[key]

    def links(self, start, end):
        """Return the arrows between two objects."""
        rows = []
        for arrow in self.base.links(start[0], end[0]):
            moved = self.shifted(start, end[0], arrow)
            rows.extend([(arrow, link) for link in self.family.over(end[0]).links(moved, end[1])])
            self.limited(rows)
        return rows

    def degree(self, thing):
        """Return the number of arrows from an object."""
        total = 0
        for end, arrow in self.base.fan(thing[0]):
            total += self.family.over(end).degree(self.shifted(thing, end, arrow))
        return total

    def has_link(self, start, end, arrow):
        """Tell whether it is an arrow between the objects."""
        if not isinstance(arrow, tuple) or len(arrow) != 2 or not self.base.has_link(start[0], end[0], arrow[0]):
            return False
        moved = self.shifted(start, end[0], arrow[0])
        return self.family.over(end[0]).has_link(moved, end[1], arrow[1])

    def compose(self, start, middle, end, first, second):
        """Return the composite."""
        arrow = self.base.compose(start[0], middle[0], end[0], first[0], second[0])
        moved = self.shifted(start, middle[0], first[0])
        shift = self.family.shift(middle[0], end[0], second[0])
        link = shift.image_link(moved, middle[1], first[1])
        fibre = self.family.over(end[0])
        return (arrow, fibre.compose(shift.image(moved), shift.image(middle[1]), end[1], link, second[1]))

    def inverse(self, start, end, arrow):
        """Return the inverse."""
        home = self.base.inverse(start[0], end[0], arrow[0])
        moved = self.shifted(start, end[0], arrow[0])
        link = self.family.over(end[0]).inverse(moved, end[1], arrow[1])
        return (home, self.family.shift(end[0], start[0], home).image_link(end[1], moved, link))

    def identity(self, thing):
        """Return the identity."""
        return (self.base.identity(thing[0]), self.family.over(thing[0]).identity(thing[1]))


class PairsAction(Action):
    """The action on pairs."""

    def __init__(self, source, target, sweep):
        Action.__init__(self, source, target)
        self.sweep = sweep

    def image(self, thing):
        """Return what it makes of an object."""
        return (self.sweep.base.image(thing[0]), self.sweep.lift(thing[0]).image(thing[1]))

    def image_link(self, start, end, arrow):
        """Return what it makes of an arrow."""
        first = self.sweep.base.image_link(start[0], end[0], arrow[0])
        moved = self.source.shifted(start, end[0], arrow[0])
        return (first, self.sweep.lift(end[0]).image_link(moved, end[1], arrow[1]))
