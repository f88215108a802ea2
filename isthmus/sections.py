"""The functors that are the objects of a type of maps: how to list, check and complete them.

On each block of the base a functor is told by its object at the root, its arrows along the loops there, and for each
other object of the block the arrow along the trunk. The rule for composites must be checked for the loops alone;
the arrows along all others follow.
"""

from isthmus.errors import TooLarge
from isthmus.paths import key_of


def choices(rows):
    """Return all tuples with one item of each row, in order."""
    found = [()]
    for row in rows:
        found = [chosen + (item,) for chosen in found for item in row]
    return found


def product_of(numbers):
    """Return the product of the numbers."""
    total = 1
    for number in numbers:
        total = total * number
    return total


class LoopSearch:
    """The ways to choose the arrows along the loops of one block, with one object at its root."""

    def __init__(self, maps, block, thing):
        root = block.root
        frame = block.whole
        self.block = block
        self.thing = thing
        self.fibre = maps.fibres[root]
        self.shifts = [maps.shifts[frame.spot[(root, root, key_of(loop))]] for loop in block.loops]
        self.images = [shift.image(thing) for shift in self.shifts]
        self.most = maps.most
        self.found = []

    def known_ahead(self):
        """Return what is known ahead: the arrow along the identity."""
        return {self.block.rest_turn(): self.fibre.identity(self.thing)}

    def run(self):
        """Return the lists of the arrows along all loops; one more than most of them are enough."""
        self.descend(0, self.known_ahead())
        return self.found

    def descend(self, depth, known):
        """Choose the arrows along the generating loops from this one on."""
        levels = self.block.levels()
        if depth == len(levels):
            self.found.append([known[turn] for turn in range(len(self.block.loops))])
            return
        turn, triples = levels[depth]
        for arrow in self.fibre.links(self.images[turn], self.thing):
            longer = self.follow(known, turn, triples, arrow)
            if longer is not None:
                self.descend(depth + 1, longer)
            if len(self.found) > self.most:
                return

    def follow(self, known, turn, triples, arrow):
        """Return all that follows if this arrow is chosen along a loop, or None if it contradicts itself."""
        longer = dict(known)
        longer[turn] = arrow
        images = self.images
        for later, earlier, made in triples:
            moved = self.shifts[later].image_link(images[earlier], self.thing, longer[earlier])
            link = self.fibre.compose(images[made], images[later], self.thing, moved, longer[later])
            if longer.setdefault(made, link) != link:
                return None
        return longer


class BlockChoice:
    """The functors on one block with one object at the root: the rules for loops, the ends of the trunk."""

    def __init__(self, maps, block, thing):
        self.thing = thing
        self.loops = LoopSearch(maps, block, thing).run()
        self.tips = []
        if self.loops:
            self.tips = [trunk_fan(maps, block, at, thing) for at in block.members]
        self.many = len(self.loops) * product_of([len(tips) for tips in self.tips])


def trunk_fan(maps, block, at, thing):
    """Return the pairs (object, arrow) that a functor may have at an object of the block and along its trunk."""
    if at == block.root:
        return [(thing, maps.fibres[at].identity(thing))]
    return maps.fibres[at].fan(maps.trunk_shift(block, at).image(thing))


def block_choices(maps, block):
    """Return the choices for a block that there are; not all of them, if they are more than most functors."""
    found = []
    total = 0
    for thing in maps.fibres[block.root].objects_here():
        choice = BlockChoice(maps, block, thing)
        total += choice.many
        if choice.many > 0:
            found.append(choice)
        if total > maps.most:
            return found
    return found


def list_sections(maps):
    """Return the ascending list of the functors."""
    blocks = maps.frame_below.blocks()
    found = [block_choices(maps, block) for block in blocks]
    many = product_of([sum([choice.many for choice in row]) for row in found])
    if many > maps.most:
        raise TooLarge("too many maps")
    if many == 0:
        return []
    pieces = [block_sections(maps, block, row) for block, row in zip(blocks, found)]
    return sorted([maps.joined(chosen) for chosen in choices(pieces)])


def sample_sections(maps):
    """Return functors that differ from a first one in one piece each."""
    rows = [block_samples(maps, block) for block in maps.frame_below.blocks()]
    if [] in rows:
        return []
    ahead = [row[0] for row in rows]
    found = [maps.joined(ahead)]
    for at, row in enumerate(rows):
        found.extend([maps.joined(ahead[:at] + [piece] + ahead[at + 1:]) for piece in row[1:]])
    return found


def block_samples(maps, block):
    """Return functors on one block that differ in their loops or in one tip of the trunk from a first one."""
    found = []
    for choice in block_choices(maps, block):
        tips = [row[0] for row in choice.tips]
        found.extend([complete(maps, block, choice.thing, loops, tips) for loops in choice.loops])
        for at, row in enumerate(choice.tips):
            for tip in row[1:]:
                others = tips[:at] + [tip] + tips[at + 1:]
                found.append(complete(maps, block, choice.thing, choice.loops[0], others))
    return found


def block_sections(maps, block, row):
    """Return the functors on one block, as pairs of dicts (objects by position, arrows by position)."""
    found = []
    for choice in row:
        for loops in choice.loops:
            for tips in choices(choice.tips):
                found.append(complete(maps, block, choice.thing, loops, tips))
    return found


def complete(maps, block, thing, loops, tips):
    """Return the functor on a block with this root, these arrows along loops and these tips of the trunk."""
    ends = dict(zip(block.members, tips))
    arrows = {}
    for position, source, target, turn in block.twists():
        fibre = maps.fibres[target]
        root = block.whole.rows[block.root]
        end, tip = ends[target]
        trunk = maps.trunk_shift(block, target)
        around = maps.family.shift(root, root, block.loops[turn]).image(thing)
        far = trunk.image(around)
        near = trunk.image(thing)
        out = fibre.compose(far, near, end, trunk.image_link(around, thing, loops[turn]), tip)
        if source != block.root:
            shift = maps.shifts[position]
            other, back = ends[source]
            before = maps.trunk_shift(block, source).image(thing)
            home = fibre.inverse(far, shift.image(other), shift.image_link(before, other, back))
            out = fibre.compose(shift.image(other), far, end, home, out)
        arrows[position] = out
    return ({at: ends[at][0] for at in ends}, arrows)


def is_section(maps, block, values, arrows):
    """Tell whether objects and arrows, told by position, are a functor on a block; the objects are checked."""
    thing = values[block.root]
    search = LoopSearch(maps, block, thing)
    known = search.known_ahead()
    spot = block.whole.spot
    for turn, triples in block.levels():
        arrow = arrows[spot[(block.root, block.root, key_of(block.loops[turn]))]]
        if not search.fibre.has_link(search.images[turn], thing, arrow):
            return False
        known = search.follow(known, turn, triples, arrow)
        if known is None:
            return False
    tips = []
    for at in block.members:
        arrow = arrows[spot[(block.root, at, key_of(block.trunk[at]))]]
        moved = maps.trunk_shift(block, at).image(thing)
        if not maps.fibres[at].has_link(moved, values[at], arrow):
            return False
        tips.append((values[at], arrow))
    loops = [known[turn] for turn in range(len(block.loops))]
    made = complete(maps, block, thing, loops, tips)[1]
    return all([arrows[position] == made[position] for position in made])
