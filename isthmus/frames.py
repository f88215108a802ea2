"""A groupoid written out: its objects and arrows as rows, its classes as blocks.

Objects are told by their positions here. In each block one object is the root; the trunk leads from it to the
others, and the loops are the arrows from the root to itself. Trunk and loops make up all arrows of the block.
"""

from isthmus.errors import TooLarge
from isthmus.paths import key_of

# So many loops are tried where one is looked for that makes up much.
MOST_TRIED = 24


class Frame:
    """The objects (rows) and arrows (lines: source, target, arrow) of a groupoid, both ascending."""

    def __init__(self, groupoid):
        self.listed = groupoid
        self.rows = groupoid.objects_here()
        self.rank = {key_of(thing): at for at, thing in enumerate(self.rows)}
        self.lines = []
        self.spot = {}
        for at, thing in enumerate(self.rows):
            for end, arrow in groupoid.fan(thing):
                self.note_line(at, self.rank[key_of(end)], arrow)
        self.found_blocks = None

    def note_line(self, source, target, arrow):
        """Add an arrow behind the others."""
        if len(self.lines) >= self.listed.most:
            raise TooLarge("too many arrows")
        self.spot[(source, target, key_of(arrow))] = len(self.lines)
        self.lines.append((source, target, arrow))

    def blocks(self):
        """Return the blocks, in the order of their roots."""
        if self.found_blocks is None:
            self.found_blocks = find_blocks(self)
        return self.found_blocks

    def generators(self):
        """Return lines of which, with their inverses, all arrows are composites."""
        found = []
        for block in self.blocks():
            for at in block.members:
                if at != block.root:
                    found.append((block.root, at, block.trunk[at]))
            for turn, _ in block.levels():
                found.append((block.root, block.root, block.loops[turn]))
        return found


class Loops:
    """The arrows from an object to itself, told by their positions in a list of them."""

    def __init__(self, groupoid, thing, loops):
        self.listed = groupoid
        self.thing = thing
        self.loops = loops
        self.turns = {key_of(loop): at for at, loop in enumerate(loops)}
        self.found_levels = None
        self.found_table = None

    def rest_turn(self):
        """Return the position of the identity among the loops."""
        return self.turns[key_of(self.listed.identity(self.thing))]

    def levels(self):
        """Return generating loops, each with the triples (g, w, v) that it adds, where v is g * w.

        g is one of the generating loops told so far, w any loop that these make up.
        """
        if self.found_levels is None:
            self.found_levels = find_levels(self)
        return self.found_levels

    def product(self, first, second):
        """Return the position of the composite of two loops, first and then second."""
        thing = self.thing
        loop = self.listed.compose(thing, thing, thing, self.loops[first], self.loops[second])
        return self.turns[key_of(loop)]

    def table(self):
        """Return all composites: the row v has v * w at w (first w, then v)."""
        if self.found_table is None:
            self.found_table = find_table(self, self.levels())
        return self.found_table


class Block(Loops):
    """One class of objects of a frame, with the loops at its root."""

    def __init__(self, frame, root, trunk, loops):
        Loops.__init__(self, frame.listed, frame.rows[root], loops)
        self.whole = frame
        self.root = root
        self.members = sorted(trunk)
        self.trunk = trunk
        self.found_twists = None

    def twists(self):
        """Return (position, source, target, w) for each arrow: on a trunk it is the loop w, then the other trunk."""
        if self.found_twists is None:
            self.found_twists = find_twists(self)
        return self.found_twists


def find_blocks(frame):
    """Return the blocks of a frame."""
    blocks = []
    seen = {}
    for at, thing in enumerate(frame.rows):
        if at not in seen:
            trunk = {at: frame.listed.identity(thing)}
            loops = []
            for end, arrow in frame.listed.fan(thing):
                target = frame.rank[key_of(end)]
                trunk.setdefault(target, arrow)
                seen[target] = True
                if target == at:
                    loops.append(arrow)
            blocks.append(Block(frame, at, trunk, loops))
    return blocks


class Rows:
    """The composites of loops, read off their table."""

    def __init__(self, rows):
        self.rows = rows

    def product(self, first, second):
        """Return the position of the composite of two loops, first and then second."""
        return self.rows[second][first]


def find_levels(block):
    """Return the levels of loops: if the first ones are many, by fewer loops that make up more each."""
    levels = first_levels(block)
    if len(levels) < 3:
        return levels
    rows = Rows(find_table(block, levels))
    rest = block.rest_turn()
    known = {rest: True}
    order = [rest]
    chosen = []
    found = []
    while len(order) < len(block.loops):
        chosen.append(widest(rows, known, order, chosen))
        found.append((chosen[-1], spread(rows, known, order, chosen)))
    return found


def first_levels(block):
    """Return levels by the first loops that add anything: each of them at least doubles what is made up."""
    rest = block.rest_turn()
    known = {rest: True}
    order = [rest]
    chosen = []
    levels = []
    for turn in range(len(block.loops)):
        if turn not in known:
            chosen.append(turn)
            levels.append((turn, spread(block, known, order, chosen)))
    return levels


def widest(rows, known, order, chosen):
    """Return a loop that adds most to what the chosen ones make up; where there are many, only some are tried."""
    left = [turn for turn in range(len(rows.rows)) if turn not in known]
    best = 0
    most = 0
    for turn in left[::1 + len(left) // MOST_TRIED]:
        longer = list(order)
        spread(rows, dict(known), longer, chosen + [turn])
        if len(longer) > most:
            best = turn
            most = len(longer)
    return best


def spread(block, known, order, chosen):
    """Close the known loops under the last chosen one; return the triples that this adds."""
    triples = []
    old = len(order)
    at = 0
    while at < len(order):
        fresh = chosen[-1:] if at < old else chosen
        for turn in fresh:
            made = block.product(order[at], turn)
            triples.append((turn, order[at], made))
            if made not in known:
                known[made] = True
                order.append(made)
        at += 1
    return triples


def find_table(block, levels):
    """Return the table of loops, worked out from the composites with generating loops behind."""
    many = len(block.loops)
    triples = [triple for _, row in levels for triple in row]
    behind = {}
    for later, earlier, made in triples:
        behind.setdefault(later, [0] * many)[earlier] = made
    rows = {block.rest_turn(): list(range(many))}
    for later, earlier, made in triples:
        if made not in rows:
            rows[made] = [behind[later][turn] for turn in rows[earlier]]
    return [rows[turn] for turn in range(many)]


def find_twists(block):
    """Return the twists of a block, in the order of its arrows."""
    frame = block.whole
    groupoid = frame.listed
    root = frame.rows[block.root]
    homes = {at: groupoid.inverse(root, frame.rows[at], block.trunk[at]) for at in block.members}
    twists = []
    for position, (source, target, arrow) in enumerate(frame.lines):
        if source in block.trunk:
            start = frame.rows[source]
            end = frame.rows[target]
            out = groupoid.compose(root, start, end, block.trunk[source], arrow)
            loop = groupoid.compose(root, end, root, out, homes[target])
            twists.append((position, source, target, block.turns[key_of(loop)]))
    return twists
