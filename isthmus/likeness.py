"""Types and terms that are alike: their words alone show that they mean the same, at all places of any context.

Alike are those that differ in bound names, and those of which one has a term written where the other one has a name
that "at" or "given" tells to be this term. The two dicts (left and right) tell what the names stand for: a bound one
for a number, which is the same on both sides; one of "at" or "given" for the pair of its term and the dict of this
term; all others for themselves.
"""

from isthmus.forms import BINDERS, is_written, part_codes
from isthmus.nodes import bound_names

# What is compared in vain costs this much time at most; the meanings are compared then.
MOST_VISITS = 5000


class Patience:
    """Counts the nodes that one comparison visits: terms behind names may be met again and again."""

    def __init__(self):
        self.visits = 0

    def lasts(self):
        """Note a visit; tell whether it may go on."""
        self.visits += 1
        return self.visits <= MOST_VISITS


def with_meaning(names, name, meaning):
    """Return the dict with one more name; it hides an outer one of this name."""
    longer = dict(names)
    longer[name] = meaning
    return longer


def settled(node, names):
    """Return a node, and its dict, behind all "at", "given" and names that stand for terms."""
    while True:
        if node.word in ("at", "given"):
            name, _, term, body = node.parts
            names = with_meaning(names, name, (term, names))
            node = body
        elif node.word == "name" and isinstance(names.get(node.parts[0]), tuple):
            node, names = names[node.parts[0]]
        else:
            return node, names


def surely_same(first, second):
    """Tell whether two nodes are found to be alike; if not, they may mean the same nevertheless."""
    return alike(Patience(), first, second, ({}, {}), 0)


def alike(patience, first, second, names, deep):
    """Tell whether two nodes are alike; deep is above all numbers that stand for bound names."""
    first, left = settled(first, names[0])
    second, right = settled(second, names[1])
    if first.word != second.word or not patience.lasts():
        return False
    if first == second and all([same_meaning(name, name, left, right) for name in first.free]):
        return True
    one_bound = bound_names(first.word, first.parts)
    two_bound = bound_names(second.word, second.parts)
    for code, one, two in zip(part_codes(first.word), first.parts, second.parts):
        left_here, right_here = left, right
        tail = code[1:]
        if tail in one_bound:
            left_here = with_meaning(left, one_bound[tail], deep)
            right_here = with_meaning(right, two_bound[tail], deep)
        if not parts_alike(patience, code, one, two, (left_here, right_here), deep + 1):
            return False
    return True


def parts_alike(patience, code, one, two, names, deep):
    """Tell whether two parts with one code are alike."""
    if is_written(code):
        return alike(patience, one, two, names, deep)
    if code == "T*":
        rows = zip(one, two)
        return len(one) == len(two) and all([alike(patience, a, b, names, deep) for a, b in rows])
    if code == "use":
        return same_meaning(one, two, names[0], names[1])
    return code in BINDERS or one == two


def same_meaning(one, two, left, right):
    """Tell whether two names stand for one name; False if one of them stands for a term."""
    first = left.get(one, one)
    second = right.get(two, two)
    return not isinstance(first, tuple) and first == second
