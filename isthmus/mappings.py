"""The groupoids of maps, and their actions."""

from isthmus.actions import Action
from isthmus.errors import TooLarge
from isthmus.groupoids import Groupoid
from isthmus.paths import key_of
from isthmus.sections import choices, is_section, list_sections, product_of, sample_sections


class Maps(Groupoid):
    """Functors on the base, told by the tuples of their objects and arrows in the order of the base's frame.

    frame_below is the frame of the base, fibres and shifts are the groupoids and actions of the family in its order.
    """

    def __init__(self, most, family):
        Groupoid.__init__(self, most)
        self.family = family
        frame = family.base.frame()
        self.frame_below = frame
        self.fibres = [family.over(thing) for thing in frame.rows]
        self.shifts = [family.shift(frame.rows[source], frame.rows[target], arrow)
                       for source, target, arrow in frame.lines]
        self.rows = None
        self.fans = {}
        self.images = {}

    def moved(self, position, thing):
        """Return what the arrow of the base with this position makes of an object over its source."""
        key = (position, key_of(thing))
        if key not in self.images:
            self.images[key] = self.shifts[position].image(thing)
        return self.images[key]

    def trunk_shift(self, block, at):
        """Return the action along the trunk to an object of the block."""
        return self.shifts[self.frame_below.spot[(block.root, at, key_of(block.trunk[at]))]]

    def value_at(self, thing, place):
        """Return the object of a map at an object of the base."""
        return thing[0][self.frame_below.rank[key_of(place)]]

    def arrow_at(self, thing, start, end, arrow):
        """Return the arrow of a map along an arrow of the base."""
        rank = self.frame_below.rank
        return thing[1][self.frame_below.spot[(rank[key_of(start)], rank[key_of(end)], key_of(arrow))]]

    def joined(self, pieces):
        """Return the map that consists of functors on the blocks."""
        values = {}
        arrows = {}
        for objects_by, arrows_by in pieces:
            values.update(objects_by)
            arrows.update(arrows_by)
        frame = self.frame_below
        return (tuple([values[at] for at in range(len(frame.rows))]),
                tuple([arrows[at] for at in range(len(frame.lines))]))

    def objects_here(self):
        """Return the objects."""
        if self.rows is None:
            self.rows = list_sections(self)
        return self.rows

    def samples(self):
        """Return some of the objects."""
        return sample_sections(self)

    def has(self, thing):
        """Tell whether it is an object."""
        if not isinstance(thing, tuple) or len(thing) != 2:
            return False
        values, arrows = thing
        frame = self.frame_below
        if not isinstance(values, tuple) or len(values) != len(frame.rows):
            return False
        if not isinstance(arrows, tuple) or len(arrows) != len(frame.lines):
            return False
        if not all([fibre.has(value) for fibre, value in zip(self.fibres, values)]):
            return False
        return all([is_section(self, block, values, arrows) for block in frame.blocks()])

    def is_discrete(self):
        """Tell whether there are no arrows but the identities; over discrete fibres maps need not be listed."""
        if all([fibre.is_discrete() for fibre in self.fibres]):
            return True
        return self.only_identities(self.objects_here())

    def degree(self, thing):
        """Return the number of arrows from an object: one for each choice of arrows from its values."""
        return product_of([fibre.degree(value) for fibre, value in zip(self.fibres, thing[0])])

    def fan(self, thing):
        """Return the arrows from an object."""
        key = key_of(thing)
        if key not in self.fans:
            if self.degree(thing) > self.most:
                raise TooLarge("too many arrows between maps")
            fans = [fibre.fan(value) for fibre, value in zip(self.fibres, thing[0])]
            self.fans[key] = sorted([self.pushed(thing, chosen) for chosen in choices(fans)])
        return self.fans[key]

    def pushed(self, thing, chosen):
        """Return the map to which arrows from the values of a map lead, and the tuple of these arrows."""
        values, arrows = thing
        made = []
        for at, (source, target, _) in enumerate(self.frame_below.lines):
            fibre = self.fibres[target]
            shift = self.shifts[at]
            end, link = chosen[source]
            start = shift.image(end)
            middle = shift.image(values[source])
            home = fibre.inverse(middle, start, shift.image_link(values[source], end, link))
            out = fibre.compose(middle, values[target], chosen[target][0], arrows[at], chosen[target][1])
            made.append(fibre.compose(start, middle, chosen[target][0], home, out))
        return ((tuple([pair[0] for pair in chosen]), tuple(made)), tuple([pair[1] for pair in chosen]))

    def links(self, start, end):
        """Return the arrows between two objects."""
        pieces = []
        for block in self.frame_below.blocks():
            arrows = self.fibres[block.root].links(start[0][block.root], end[0][block.root])
            found = [self.spread_link(block, start, end, arrow) for arrow in arrows]
            pieces.append([links for links in found if links is not None])
        if product_of([len(row) for row in pieces]) > self.most:
            raise TooLarge("too many arrows between two maps")
        rows = []
        for chosen in choices(pieces):
            arrows_by = {}
            for piece in chosen:
                arrows_by.update(piece)
            rows.append(tuple([arrows_by[at] for at in range(len(self.fibres))]))
        return sorted(rows)

    def spread_link(self, block, start, end, arrow):
        """Return the arrows at all objects of a block that go with this one at the root, or None."""
        for turn, _ in block.levels():
            loop = block.loops[turn]
            at = self.frame_below.spot[(block.root, block.root, key_of(loop))]
            if self.crossed(at, block.root, start, end, arrow) != arrow:
                return None
        found = {}
        for at in block.members:
            position = self.frame_below.spot[(block.root, at, key_of(block.trunk[at]))]
            found[at] = self.crossed(position, at, start, end, arrow)
        return found

    def crossed(self, position, target, start, end, arrow):
        """Return the arrow that must stand at the target if this one stands at the source of an arrow."""
        source = self.frame_below.lines[position][0]
        fibre = self.fibres[target]
        shift = self.shifts[position]
        near = shift.image(start[0][source])
        far = shift.image(end[0][source])
        home = fibre.inverse(near, start[0][target], start[1][position])
        moved = shift.image_link(start[0][source], end[0][source], arrow)
        out = fibre.compose(start[0][target], near, far, home, moved)
        return fibre.compose(start[0][target], far, end[0][target], out, end[1][position])

    def has_link(self, start, end, arrow):
        """Tell whether it is an arrow between the objects."""
        if not isinstance(arrow, tuple) or len(arrow) != len(self.fibres):
            return False
        for block in self.frame_below.blocks():
            root = block.root
            if not self.fibres[root].has_link(start[0][root], end[0][root], arrow[root]):
                return False
            found = self.spread_link(block, start, end, arrow[root])
            if found is None or not all([arrow[at] == found[at] for at in found]):
                return False
        return True

    def compose(self, start, middle, end, first, second):
        """Return the composite."""
        rows = zip(self.fibres, start[0], middle[0], end[0], first, second)
        return tuple([fibre.compose(a, b, c, u, v) for fibre, a, b, c, u, v in rows])

    def inverse(self, start, end, arrow):
        """Return the inverse."""
        rows = zip(self.fibres, start[0], end[0], arrow)
        return tuple([fibre.inverse(a, b, u) for fibre, a, b, u in rows])

    def identity(self, thing):
        """Return the identity."""
        return tuple([fibre.identity(a) for fibre, a in zip(self.fibres, thing[0])])


class MapsAction(Action):
    """The action on maps."""

    def __init__(self, source, target, sweep):
        Action.__init__(self, source, target)
        self.sweep = sweep
        here = source.frame_below
        there = target.frame_below
        base = sweep.base
        self.seats = [there.rank[key_of(base.image(thing))] for thing in here.rows]
        self.lanes = []
        for first, second, arrow in here.lines:
            moved = base.image_link(here.rows[first], here.rows[second], arrow)
            self.lanes.append(there.spot[(self.seats[first], self.seats[second], key_of(moved))])

    def image(self, thing):
        """Return what it makes of an object."""
        values, arrows = thing
        frame = self.source.frame_below
        made = list(values)
        for at, place in enumerate(frame.rows):
            made[self.seats[at]] = self.sweep.lift(place).image(values[at])
        links = list(arrows)
        for at, (first, second, _) in enumerate(frame.lines):
            moved = self.source.shifts[at].image(values[first])
            lift = self.sweep.lift(frame.rows[second])
            links[self.lanes[at]] = lift.image_link(moved, values[second], arrows[at])
        return (tuple(made), tuple(links))

    def image_link(self, start, end, arrow):
        """Return what it makes of an arrow."""
        made = list(arrow)
        for at, place in enumerate(self.source.frame_below.rows):
            made[self.seats[at]] = self.sweep.lift(place).image_link(start[0][at], end[0][at], arrow[at])
        return tuple(made)
