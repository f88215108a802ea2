"""The group of the loops of a block, and isomorphisms between two such groups.

Elements are told by their numbers among the loops. Colours are numbers that each isomorphism keeps; they spare trying
out elements in vain.
"""

from isthmus.frames import spread


class Group:
    """A group, with its multiplication table: rows[v][w] is v * w (first w, then v)."""

    def __init__(self, block):
        self.rest = block.rest_turn()
        self.rows = multiplication(block)
        self.colours = [0] * len(self.rows)
        self.prints = []
        self.find_colours()

    def product(self, first, second):
        """Return the composite of two elements, first and then second."""
        return self.rows[second][first]

    def period(self, element):
        """Return how often an element must be taken to give the neutral one."""
        count = 1
        power = element
        while power != self.rest:
            power = self.rows[element][power]
            count += 1
        return count

    def find_colours(self):
        """Tell the elements apart, by their orders and then by the colours of their products, as far as this goes."""
        signs = [(self.period(element),) for element in range(len(self.rows))]
        many = 0
        while self.paint(signs) > many:
            many = max(self.colours) + 1
            signs = [self.sign(element, many) for element in range(len(self.rows))]

    def paint(self, signs):
        """Give each element a colour by its sign; return how many there are. The print is the same for like groups."""
        self.prints.append(sorted(signs))
        kinds = {}
        for sign in self.prints[-1]:
            kinds.setdefault(sign, len(kinds))
        self.colours = [kinds[sign] for sign in signs]
        return len(kinds)

    def sign(self, element, many):
        """Return what tells an element from others of its colour: the colours of its products with all."""
        colours = self.colours
        row = self.rows[element]
        pairs = [colours[other] * many + colours[row[other]] for other in range(len(row))]
        return (colours[element],) + tuple(sorted(pairs))

    def levels(self):
        """Return generating elements, those of rare colours first, each with the triples that it adds (see Block)."""
        counts = [self.colours.count(colour) for colour in range(max(self.colours) + 1)]
        ranks = sorted([(counts[self.colours[element]], element) for element in range(len(self.rows))])
        known = {self.rest: True}
        order = [self.rest]
        chosen = []
        found = []
        for _, element in ranks:
            if element not in known:
                chosen.append(element)
                found.append((element, spread(self, known, order, chosen)))
        return found


def multiplication(block):
    """Return the multiplication table of the loops of a block, worked out from the products with generating loops."""
    many = len(block.loops)
    triples = [triple for _, row in block.levels() for triple in row]
    behind = {}
    for later, earlier, made in triples:
        behind.setdefault(later, [0] * many)[earlier] = made
    rows = {block.rest_turn(): list(range(many))}
    for later, earlier, made in triples:
        if made not in rows:
            rows[made] = [behind[later][element] for element in rows[earlier]]
    return [rows[element] for element in range(many)]


def isomorphism(first, second):
    """Return the list of what an isomorphism of groups makes of each element, or None if there is none."""
    if first.prints != second.prints:
        return None
    found = extended(first, second, first.levels(), {first.rest: second.rest})
    if found is None:
        return None
    return [found[element] for element in range(len(first.rows))]


def extended(first, second, levels, known):
    """Return a dict for an isomorphism that begins with the known one, or None; levels are what is not known."""
    if not levels:
        return known
    element, triples = levels[0]
    for image in range(len(second.rows)):
        if second.colours[image] == first.colours[element]:
            longer = follow(first, second, triples, known, (element, image))
            if longer is not None:
                found = extended(first, second, levels[1:], longer)
                if found is not None:
                    return found
    return None


def follow(first, second, triples, known, pair):
    """Return all that follows if an element goes to this image, or None if it contradicts itself.

    The orders are kept, so none but the neutral element goes to the neutral one.
    """
    longer = dict(known)
    longer[pair[0]] = pair[1]
    for later, earlier, made in triples:
        image = second.product(longer[earlier], longer[later])
        if longer.setdefault(made, image) != image or first.colours[made] != second.colours[image]:
            return None
    return longer
