"""Actions: what a step makes of the objects and arrows of a type, given by short rules."""


class Action:
    """A functor from a groupoid to another one; image(thing) and image_link(start, end, arrow) apply it."""

    def __init__(self, source, target):
        self.source = source
        self.target = target
        self.agreed = {}


class Still(Action):
    """The action that makes the same of everything."""

    def __init__(self, groupoid):
        Action.__init__(self, groupoid, groupoid)

    def image(self, thing):
        """Return what it makes of an object."""
        return thing

    def image_link(self, start, end, arrow):
        """Return what it makes of an arrow."""
        return arrow


class Shuffle(Action):
    """The action on the points of a size."""

    def __init__(self, source, target, order):
        Action.__init__(self, source, target)
        self.order = order

    def image(self, thing):
        """Return what it makes of an object."""
        return self.order[thing]

    def image_link(self, start, end, arrow):
        """Return what it makes of an arrow."""
        return ()


class WaysAction(Action):
    """The action on arrows between two terms; first and second are the arrows of these along the step."""

    def __init__(self, source, target, base, first, second):
        Action.__init__(self, source, target)
        self.base = base
        self.first = first
        self.second = second

    def image(self, thing):
        """Return what it makes of an object."""
        start = self.base.image(self.source.start)
        end = self.base.image(self.source.end)
        moved = self.base.image_link(self.source.start, self.source.end, thing)
        groupoid = self.target.base
        home = groupoid.inverse(start, self.target.start, self.first)
        arrow = groupoid.compose(self.target.start, start, end, home, moved)
        return groupoid.compose(self.target.start, end, self.target.end, arrow, self.second)

    def image_link(self, start, end, arrow):
        """Return what it makes of an arrow."""
        return ()


class ClassesAction(Action):
    """The action on the least objects of classes."""

    def __init__(self, source, target, base):
        Action.__init__(self, source, target)
        self.base = base

    def image(self, thing):
        """Return what it makes of an object."""
        return self.target.base.least(self.base.image(thing))

    def image_link(self, start, end, arrow):
        """Return what it makes of an arrow."""
        return ()


class SumAction(Action):
    """Two actions side by side."""

    def __init__(self, source, target, first, second):
        Action.__init__(self, source, target)
        self.sides = (first, second)

    def image(self, thing):
        """Return what it makes of an object."""
        side, part = thing
        return (side, self.sides[side].image(part))

    def image_link(self, start, end, arrow):
        """Return what it makes of an arrow."""
        return self.sides[start[0]].image_link(start[1], end[1], arrow)
