"""The arrows of a functor along the loops of one block, with one object at the root: to check told ones, to find all.

Along each loop s the object goes to an image. For the search one arrow e(s) from this image back to the object is
fixed; any other one is e(s) and, behind it, an arrow x(s) from the object to itself, which goes by its number. The rule
for composites is then x(g * w) = x(g) * turned(g)(x(w)) * extra(g, w), where turned(s) takes an arrow from the object
to itself, moves it along s and brings it back by e(s), and extra(s, t) is what e(s) * (e(t) moved along s) is behind
e(s * t).
"""

from isthmus.frames import Loops
from isthmus.paths import key_of

# So many of the known loops are asked which arrows they leave for the next one; more would hardly leave fewer.
MOST_ASKED = 12


class LoopImages:
    """What the loops of a block make of an object at its root, and the rule for arrows along them."""

    def __init__(self, maps, block, thing):
        root = block.root
        spot = block.whole.spot
        self.maps = maps
        self.block = block
        self.thing = thing
        self.fibre = maps.fibres[root]
        self.positions = {turn: spot[(root, root, key_of(block.loops[turn]))] for turn, _ in block.levels()}
        self.images = {block.rest_turn(): thing}
        for turn in self.positions:
            self.images[turn] = maps.moved(self.positions[turn], thing)

    def is_reached(self):
        """Tell whether arrows lead back from the images along all generating loops, and so along all loops."""
        return all([self.fibre.links(self.images[turn], self.thing) for turn in self.positions])

    def spread_images(self):
        """Find what all loops make of the object; a composite makes of it what its parts make one behind the other."""
        for _, triples in self.block.levels():
            for later, earlier, made in triples:
                if made not in self.images:
                    self.images[made] = self.maps.moved(self.positions[later], self.images[earlier])

    def along(self, later, earlier, arrow):
        """Return what a generating loop makes of an arrow from the image along an earlier loop to the object."""
        return self.maps.shifts[self.positions[later]].image_link(self.images[earlier], self.thing, arrow)

    def known_ahead(self):
        """Return what is known ahead: the arrow along the identity."""
        return {self.block.rest_turn(): self.fibre.identity(self.thing)}

    def follow(self, known, turn, triples, arrow):
        """Return all that follows if this arrow is chosen along a loop, or None if it contradicts itself."""
        longer = dict(known)
        longer[turn] = arrow
        images = self.images
        for later, earlier, made in triples:
            moved = self.along(later, earlier, longer[earlier])
            link = self.fibre.compose(images[made], images[later], self.thing, moved, longer[later])
            if longer.setdefault(made, link) != link:
                return None
        return longer


class LoopSearch:
    """The ways to choose the arrows along the loops of one block, by numbers."""

    def __init__(self, told):
        self.told = told
        self.block = told.block
        fibre, thing = told.fibre, told.thing
        self.around = Loops(fibre, thing, fibre.links(thing, thing))
        self.rest = self.around.rest_turn()
        self.rows = []
        self.inverses = []
        self.fixed = {turn: self.fixed_arrow(turn) for turn in told.images}
        self.words = {}
        for _, triples in self.block.levels():
            for later, earlier, made in triples:
                self.words.setdefault(made, (later, earlier))
        self.turns = {}
        self.extras = {}
        self.possibles = {}
        self.found = []
        self.many = 0

    def fixed_arrow(self, turn):
        """Return the arrow that is fixed from the image along a loop to the object."""
        image, thing = self.told.images[turn], self.told.thing
        if image == thing:
            return self.told.fibre.identity(thing)
        return self.told.fibre.links(image, thing)[0]

    def arrow(self, turn, number):
        """Return the arrow along a loop that has a number."""
        image, thing = self.told.images[turn], self.told.thing
        if image == thing:
            return self.around.loops[number]
        return self.told.fibre.compose(image, thing, thing, self.fixed[turn], self.around.loops[number])

    def behind_fixed(self, turn, arrow):
        """Return the number of an arrow from the image along a loop to the object."""
        image, thing = self.told.images[turn], self.told.thing
        if image != thing:
            home = self.told.fibre.inverse(image, thing, self.fixed[turn])
            arrow = self.told.fibre.compose(thing, image, thing, home, arrow)
        return self.around.turns[key_of(arrow)]

    def turned(self, turn):
        """Return the list of what becomes of the arrows from the object to itself along a loop."""
        if turn not in self.turns:
            if turn in self.told.positions:
                self.turns[turn] = self.turned_by_shift(turn)
            elif turn == self.block.rest_turn():
                self.turns[turn] = list(range(len(self.rows)))
            else:
                self.turns[turn] = self.turned_by_word(turn)
        return self.turns[turn]

    def turned_by_shift(self, turn):
        """Return that list for a generating loop; it is a map of groups, so generating arrows tell it."""
        found = {self.rest: self.rest}
        for number, triples in self.around.levels():
            found[number] = self.turned_number(turn, number)
            for later, earlier, made in triples:
                found[made] = self.rows[found[later]][found[earlier]]
        return [found[number] for number in range(len(self.rows))]

    def turned_number(self, turn, number):
        """Return what becomes of one arrow from the object to itself along a generating loop."""
        image, thing = self.told.images[turn], self.told.thing
        arrow = self.told.maps.shifts[self.told.positions[turn]].image_link(thing, thing, self.around.loops[number])
        out = self.told.fibre.compose(image, image, thing, arrow, self.fixed[turn])
        return self.behind_fixed(turn, out)

    def turned_by_word(self, turn):
        """Return that list for a composite of loops."""
        later, earlier = self.words[turn]
        extra = self.extra(later, earlier)
        ahead, behind = self.turned(earlier), self.turned(later)
        back = self.rows[self.inverses[extra]]
        return [back[self.rows[behind[number]][extra]] for number in ahead]

    def extra(self, turn, other):
        """Return the number of what the fixed arrows along two loops, one behind the other, are too much."""
        key = (turn, other)
        if key not in self.extras:
            if turn in self.told.positions:
                self.extras[key] = self.extra_by_shift(turn, other)
            elif turn == self.block.rest_turn():
                self.extras[key] = self.rest
            else:
                self.extras[key] = self.extra_by_word(turn, other)
        return self.extras[key]

    def extra_by_shift(self, turn, other):
        """Return that number where the loop behind is a generating one."""
        images, thing = self.told.images, self.told.thing
        made = self.block.table()[turn][other]
        if images[turn] == thing and images[other] == thing:
            return self.rest
        moved = self.told.along(turn, other, self.fixed[other])
        arrow = self.told.fibre.compose(images[made], images[turn], thing, moved, self.fixed[turn])
        return self.behind_fixed(made, arrow)

    def extra_by_word(self, turn, other):
        """Return that number where the loop behind is a composite."""
        later, earlier = self.words[turn]
        inner = self.turned(later)[self.extra(earlier, other)]
        outer = self.extra(later, self.block.table()[earlier][other])
        return self.rows[self.inverses[self.extra(later, earlier)]][self.rows[inner][outer]]

    def behind(self, turn, other, number):
        """Return what x(turn) must be multiplied by to give x(turn * other), if x(other) is this number."""
        return self.rows[self.turned(turn)[number]][self.extra(turn, other)]

    def possible(self, turn):
        """Return a dict of the numbers that do not contradict themselves along a loop done again and again."""
        if turn not in self.possibles:
            self.possibles[turn] = {number: True for number in range(len(self.rows)) if self.returns(turn, number)}
        return self.possibles[turn]

    def returns(self, turn, number):
        """Tell whether an arrow along a loop gives the identity where the loop, done often enough, does."""
        rest = self.block.rest_turn()
        made, reached = turn, number
        while made != rest:
            reached = self.rows[number][self.behind(turn, made, reached)]
            made = self.block.table()[turn][made]
        return reached == self.rest

    def run(self):
        """Find the ways; one more than most of them are enough."""
        everyone = list(range(len(self.around.loops)))
        if len(self.block.loops) == 1 or len(everyone) == 1:
            self.note([self.rest] * len(self.block.loops), everyone)
            return
        self.rows = self.around.table()
        self.inverses = [row.index(self.rest) for row in self.rows]
        self.descend(self.block.levels(), {self.block.rest_turn(): self.rest}, everyone)

    def note(self, numbers, keepers):
        """Note a way, which stands for all that it is moved to; keepers are the arrows that do not move it."""
        self.found.append((numbers, keepers))
        self.many += len(self.around.loops) // len(keepers)

    def moved(self, turn, number, mover):
        """Return the number along a loop in a way that is moved by an arrow from the object to itself.

        The way then has this arrow behind each of its arrows, and ahead of it the inverse of what the loop makes of it.
        """
        return self.rows[mover][self.rows[number][self.inverses[self.turned(turn)[mover]]]]

    def descend(self, levels, known, keepers):
        """Choose the numbers along the generating loops of the levels; keepers are what does not move the known ones.

        Of numbers that keepers move to each other one is enough: ways with another one are ways with this one, moved.
        """
        if not levels:
            self.note([known[turn] for turn in range(len(self.block.loops))], keepers)
            return
        turn, triples = levels[0]
        reached = {}
        for number in self.candidates(turn, known):
            if number not in reached:
                images = [self.moved(turn, number, keeper) for keeper in keepers]
                reached.update({image: True for image in images})
                longer = self.follow(known, turn, triples, number)
                if longer is not None:
                    fewer = [keeper for keeper, image in zip(keepers, images) if image == number]
                    self.descend(levels[1:], longer, fewer)
            if self.many > self.told.maps.most:
                return

    def all_ways(self):
        """Return the lists of the numbers along all loops, for all ways."""
        ways = []
        for numbers, keepers in self.found:
            ways.append(numbers)
            passed = {keeper: True for keeper in keepers}
            for mover in range(len(self.around.loops)):
                if mover not in passed:
                    ways.append([self.moved(turn, number, mover) for turn, number in enumerate(numbers)])
                    passed.update({self.rows[mover][keeper]: True for keeper in keepers})
        return ways

    def candidates(self, turn, known):
        """Return the numbers along a loop that make possible ones of its composites with known loops."""
        asked = []
        for other in list(known)[:MOST_ASKED]:
            allowed = self.possible(self.block.table()[turn][other])
            asked.append((len(allowed), other, self.behind(turn, other, known[other])))
        asked = sorted(asked)
        _, other, factor = asked[0]
        back = self.inverses[factor]
        found = [self.rows[made][back] for made in self.possible(self.block.table()[turn][other])]
        for _, other, factor in asked[1:]:
            allowed = self.possible(self.block.table()[turn][other])
            found = [number for number in found if self.rows[number][factor] in allowed]
        return found

    def follow(self, known, turn, triples, number):
        """Return all that follows if this number is chosen along a loop, or None if it contradicts itself."""
        longer = dict(known)
        longer[turn] = number
        for later, earlier, made in triples:
            found = self.rows[longer[later]][self.behind(later, earlier, longer[earlier])]
            if longer.setdefault(made, found) != found:
                return None
        return longer
