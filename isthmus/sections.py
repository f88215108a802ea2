"""The functors that are the objects of a type of maps: how to list, check and complete them.

On each block of the base a functor is told by its object at the root, its arrows along the loops there, and for each
other object of the block the arrow along the trunk. The rule for composites must be checked for the loops alone;
the arrows along all others follow.
"""

from isthmus.errors import TooLarge
from isthmus.loops import LoopImages, LoopSearch
from isthmus.paths import key_of

# Samples are taken from so many objects, and so many of what there is over each of them.
MOST_SAMPLES = 8


def choices(rows):
    """Return all tuples with one item of each row, in order."""
    found = [()]
    for row in rows:
        found = [chosen + (item,) for chosen in found for item in row]
    return found


def product_of(numbers):
    """Return the product of the numbers."""
    total = 1
    for number in numbers:
        total = total * number
    return total


class BlockChoice:
    """The functors on one block with one object at the root: the rules for loops, the ends of the trunk."""

    def __init__(self, maps, block, thing):
        told = LoopImages(maps, block, thing)
        self.images = told.images
        self.search = None
        self.tips = []
        self.many = 0
        if told.is_reached():
            told.spread_images()
            self.search = LoopSearch(told)
            self.search.run()
            if self.search.many > 0:
                self.tips = [trunk_fan(maps, block, at, thing) for at in block.members]
                self.many = self.search.many * product_of([len(tips) for tips in self.tips])

    def loop_rows(self):
        """Return the lists of the arrows along all loops."""
        return [self.arrows(row) for row in self.search.all_ways()]

    def some_loop_rows(self):
        """Return some of these lists."""
        if self.search is None:
            return []
        return [self.arrows(row) for row, _ in self.search.found[:MOST_SAMPLES]]

    def arrows(self, numbers):
        """Return the arrows along all loops that have these numbers."""
        return [self.search.arrow(turn, number) for turn, number in enumerate(numbers)]


def trunk_fan(maps, block, at, thing):
    """Return the pairs (object, arrow) that a functor may have at an object of the block and along its trunk."""
    if at == block.root:
        return [(thing, maps.fibres[at].identity(thing))]
    return maps.fibres[at].fan(maps.trunk_shift(block, at).image(thing))


def block_choices(maps, block, enough):
    """Return the choices for a block that there are; not all of them, if they are for more functors than are enough."""
    found = []
    total = 0
    for thing in maps.fibres[block.root].objects_here():
        choice = BlockChoice(maps, block, thing)
        total += choice.many
        if choice.many > 0:
            found.append(choice)
        if total > enough:
            return found
    return found


def list_sections(maps):
    """Return the ascending list of the functors."""
    blocks = maps.frame_below.blocks()
    found = []
    many = 1
    for block in blocks:
        # Behind too many it only counts whether one of the other blocks has none.
        row = block_choices(maps, block, maps.most // many)
        many = many * sum([choice.many for choice in row])
        if many == 0:
            return []
        found.append(row)
    if many > maps.most:
        raise TooLarge("too many maps")
    pieces = [block_sections(maps, block, row) for block, row in zip(blocks, found)]
    return sorted([maps.joined(chosen) for chosen in choices(pieces)])


def sample_sections(maps):
    """Return functors that differ from a first one in one piece each."""
    rows = [block_samples(maps, block) for block in maps.frame_below.blocks()]
    if [] in rows:
        return []
    ahead = [row[0] for row in rows]
    found = [maps.joined(ahead)]
    for at, row in enumerate(rows):
        found.extend([maps.joined(ahead[:at] + [piece] + ahead[at + 1:]) for piece in row[1:]])
    return found


def block_samples(maps, block):
    """Return functors on one block that differ in their loops or in one tip of the trunk from a first one."""
    found = []
    for thing in maps.fibres[block.root].objects_here()[:MOST_SAMPLES]:
        choice = BlockChoice(maps, block, thing)
        completion = Completion(maps, block, choice.images)
        tips = [row[0] for row in choice.tips]
        rows = choice.some_loop_rows()
        found.extend([completion.functor(loops, tips) for loops in rows])
        for at, row in enumerate(choice.tips):
            for tip in row[1:MOST_SAMPLES]:
                others = tips[:at] + [tip] + tips[at + 1:]
                found.append(completion.functor(rows[0], others))
    return found


def block_sections(maps, block, row):
    """Return the functors on one block, as pairs of dicts (objects by position, arrows by position)."""
    found = []
    for choice in row:
        completion = Completion(maps, block, choice.images)
        for loops in choice.loop_rows():
            found.extend([completion.functor(loops, tips) for tips in choices(choice.tips)])
    return found


class Completion:
    """Makes functors on a block out of arrows along loops and tips of the trunk.

    images are what all loops make of the object at the root. Many functors share parts; these are worked out once.
    """

    def __init__(self, maps, block, images):
        self.maps = maps
        self.block = block
        self.images = images
        self.thing = images[block.rest_turn()]
        self.fars = {}
        self.heads = {}
        self.homes = {}

    def functor(self, loops, tips):
        """Return the functor with these arrows along all loops and these tips, as dicts by position."""
        block = self.block
        ends = dict(zip(block.members, tips))
        loop_keys = [key_of(loop) for loop in loops]
        tip_keys = {at: key_of(ends[at]) for at in ends}
        arrows = {}
        for position, source, target, turn in block.twists():
            if source == target == block.root:
                arrows[position] = loops[turn]
                continue
            key = (target, tip_keys[target], turn, loop_keys[turn])
            if key not in self.heads:
                self.heads[key] = self.head(target, turn, loops[turn], ends[target])
            arrow = self.heads[key]
            if source != block.root:
                key = (position, tip_keys[source])
                if key not in self.homes:
                    self.homes[key] = self.home(position, source, target, turn, ends[source])
                start, back = self.homes[key]
                far = self.far(target, turn)
                arrow = self.maps.fibres[target].compose(start, far, ends[target][0], back, arrow)
            arrows[position] = arrow
        return ({at: ends[at][0] for at in ends}, arrows)

    def far(self, target, turn):
        """Return what the loop, and then the trunk to an object, make of the object at the root."""
        key = (target, turn)
        if key not in self.fars:
            self.fars[key] = self.maps.trunk_shift(self.block, target).image(self.images[turn])
        return self.fars[key]

    def head(self, target, turn, loop, tip):
        """Return the arrow along the loop and then the trunk to an object."""
        trunk = self.maps.trunk_shift(self.block, target)
        moved = trunk.image_link(self.images[turn], self.thing, loop)
        return self.maps.fibres[target].compose(self.far(target, turn), trunk.image(self.thing), tip[0], moved, tip[1])

    def home(self, position, source, target, turn, tip):
        """Return where an arrow between two objects takes the end of the trunk to its source, and the way back.

        This way leads to where the loop and the trunk to the target take the object at the root.
        """
        shift = self.maps.shifts[position]
        before = self.maps.trunk_shift(self.block, source).image(self.thing)
        start = shift.image(tip[0])
        arrow = shift.image_link(before, tip[0], tip[1])
        return (start, self.maps.fibres[target].inverse(self.far(target, turn), start, arrow))


def is_section(maps, block, values, arrows):
    """Tell whether objects and arrows, told by position, are a functor on a block; the objects are checked."""
    thing = values[block.root]
    told = LoopImages(maps, block, thing)
    told.spread_images()
    known = told.known_ahead()
    spot = block.whole.spot
    for turn, triples in block.levels():
        arrow = arrows[spot[(block.root, block.root, key_of(block.loops[turn]))]]
        if not told.fibre.has_link(told.images[turn], thing, arrow):
            return False
        known = told.follow(known, turn, triples, arrow)
        if known is None:
            return False
    tips = told_tips(maps, block, values, arrows)
    if tips is None:
        return False
    loops = [known[turn] for turn in range(len(block.loops))]
    made = Completion(maps, block, told.images).functor(loops, tips)[1]
    return all([arrows[position] == made[position] for position in made])


def told_tips(maps, block, values, arrows):
    """Return the told ends of the trunk, or None if there is no such arrow, or the root does not stay at rest."""
    tips = []
    for at in block.members:
        arrow = arrows[block.whole.spot[(block.root, at, key_of(block.trunk[at]))]]
        moved = maps.trunk_shift(block, at).image(values[block.root])
        if not maps.fibres[at].has_link(moved, values[at], arrow):
            return None
        if at == block.root and arrow != maps.fibres[at].identity(moved):
            return None
        tips.append((values[at], arrow))
    return tips
