"""The group of the loops of a block, and isomorphisms between two such groups.

Elements are told by their numbers among the loops. Colours are numbers that each isomorphism keeps; they spare trying
out elements in vain.
"""

from isthmus.frames import spread


class Group:
    """A group, with its multiplication table: rows[v][w] is v * w (first w, then v)."""

    def __init__(self, block):
        self.rest = block.rest_turn()
        self.rows = block.table()
        self.powers = [self.powers_of(element) for element in range(len(self.rows))]
        self.inverses = [row[-2] if len(row) > 1 else row[0] for row in self.powers]
        self.roots = self.find_roots()
        self.colours = [0] * len(self.rows)
        self.prints = []
        self.find_colours()

    def product(self, first, second):
        """Return the composite of two elements, first and then second."""
        return self.rows[second][first]

    def powers_of(self, element):
        """Return an element, its square and so on, up to the neutral element."""
        powers = [element]
        while powers[-1] != self.rest:
            powers.append(self.rows[element][powers[-1]])
        return powers

    def find_roots(self):
        """Return, for each element, the pairs (k, root) of which it is a power."""
        roots = [[] for _ in self.rows]
        for element, powers in enumerate(self.powers):
            for at, power in enumerate(powers):
                roots[power].append((at, element))
        return roots

    def find_colours(self):
        """Tell the elements apart by their orders, and then again and again by the colours around them."""
        signs = [(len(powers),) for powers in self.powers]
        many = 0
        while self.paint(signs) > many:
            many = max(self.colours) + 1
            signs = [self.sign(element, many) for element in range(len(self.rows))]

    def paint(self, signs):
        """Give each element a colour by its sign; return how many there are. Like groups get the same prints."""
        counts = {}
        for sign in signs:
            counts[sign] = counts.get(sign, 0) + 1
        kinds = sorted(counts)
        numbers = {sign: at for at, sign in enumerate(kinds)}
        self.prints.append([(sign, counts[sign]) for sign in kinds])
        self.colours = [numbers[sign] for sign in signs]
        return len(kinds)

    def sign(self, element, many):
        """Return what tells an element from others of its colour; many is the number of colours.

        These are the colours of its powers and roots, and of its products and commutators with all elements.
        """
        colours = self.colours
        rows = self.rows
        inverses = self.inverses
        row = rows[element]
        around = []
        for other, made in enumerate(row):
            twist = rows[inverses[rows[other][element]]][made]
            around.append((colours[other] * many + colours[made]) * many + colours[twist])
        roots = [at * many + colours[root] for at, root in self.roots[element]]
        powers = [colours[power] for power in self.powers[element]]
        return (colours[element], tuple(powers), tuple(sorted(roots)), tuple(sorted(around)))

    def levels(self):
        """Return generating elements, each with the triples that it adds (see Block)."""
        known = {self.rest: True}
        order = [self.rest]
        chosen = []
        found = []
        while len(order) < len(self.rows):
            element = self.next_element(known, order, chosen)
            chosen.append(element)
            found.append((element, spread(self, known, order, chosen)))
        return found

    def next_element(self, known, order, chosen):
        """Return an element that adds most to what is generated; among such ones, one of a common colour.

        Those of rare colours often commute with all others, so a wrong image for them would be noticed late.
        """
        firsts = {}
        for element, colour in enumerate(self.colours):
            if element not in known:
                firsts.setdefault(colour, element)
        ranks = []
        for colour in firsts:
            longer = list(order)
            spread(self, dict(known), longer, chosen + [firsts[colour]])
            ranks.append((-len(longer), -self.colours.count(colour), firsts[colour]))
        return min(ranks)[2]


def isomorphism(first, second):
    """Return the list of what an isomorphism of groups makes of each element, or None if there is none."""
    if first.prints != second.prints:
        return None
    found = extended(first, second, first.levels(), {first.rest: second.rest})
    if found is None:
        return None
    return [found[element] for element in range(len(first.rows))]


def extended(first, second, levels, known):
    """Return a dict for an isomorphism that begins with the known one, or None; levels are what is not known."""
    if not levels:
        return known
    element, triples = levels[0]
    for image in range(len(second.rows)):
        if second.colours[image] == first.colours[element]:
            longer = follow(first, second, triples, known, (element, image))
            if longer is not None:
                found = extended(first, second, levels[1:], longer)
                if found is not None:
                    return found
    return None


def follow(first, second, triples, known, pair):
    """Return all that follows if an element goes to this image, or None if it contradicts itself.

    The orders are kept, so none but the neutral element goes to the neutral one.
    """
    longer = dict(known)
    longer[pair[0]] = pair[1]
    for later, earlier, made in triples:
        image = second.product(longer[earlier], longer[later])
        if longer.setdefault(made, image) != image or first.colours[made] != second.colours[image]:
            return None
    return longer
