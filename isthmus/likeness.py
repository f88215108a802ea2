"""Types and terms that are alike: their words alone show that they mean the same, at all places of any context.

Alike are those that differ in bound names, and those of which one has a term written where the other one has a name
that "at" or "given" tells to be this term. The two dicts (left and right) tell what the names stand for: a bound one
for a number, which is the same on both sides; one of "at" or "given" for the pair of its term and the dict of this
term; all others for themselves.
"""

from isthmus.forms import BINDERS, is_written, part_codes
from isthmus.nodes import bound_names


def with_meaning(names, name, meaning):
    """Return the dict with one more name; it hides an outer one of this name."""
    longer = dict(names)
    longer[name] = meaning
    return longer


def settled(node, names):
    """Return a node, and its dict, behind all "at", "given" and names that stand for terms."""
    while True:
        if node.word in ("at", "given"):
            name, _, term, body = node.parts
            names = with_meaning(names, name, (term, names))
            node = body
        elif node.word == "name" and isinstance(names.get(node.parts[0]), tuple):
            node, names = names[node.parts[0]]
        else:
            return node, names


def alike(first, second, left, right, deep):
    """Tell whether two nodes are alike; deep is above all numbers that stand for bound names."""
    first, left = settled(first, left)
    second, right = settled(second, right)
    if first.word != second.word:
        return False
    if first == second and all([same_meaning(name, name, left, right) for name in first.free]):
        return True
    one_bound = bound_names(first.word, first.parts)
    two_bound = bound_names(second.word, second.parts)
    for code, one, two in zip(part_codes(first.word), first.parts, second.parts):
        left_here, right_here = left, right
        tail = code[1:]
        if tail in one_bound:
            left_here = with_meaning(left, one_bound[tail], deep)
            right_here = with_meaning(right, two_bound[tail], deep)
        if not parts_alike(code, one, two, left_here, right_here, deep + 1):
            return False
    return True


def parts_alike(code, one, two, left, right, deep):
    """Tell whether two parts with one code are alike."""
    if is_written(code):
        return alike(one, two, left, right, deep)
    if code == "T*":
        rows = zip(one, two)
        return len(one) == len(two) and all([alike(a, b, left, right, deep) for a, b in rows])
    if code == "use":
        return same_meaning(one, two, left, right)
    return code in BINDERS or one == two


def same_meaning(one, two, left, right):
    """Tell whether two names stand for one name; False if one of them stands for a term."""
    first = left.get(one, one)
    second = right.get(two, two)
    return not isinstance(first, tuple) and first == second
