"""Isomorphisms between groups of permutations whose elements are put in another order."""

import itertools
import random
import unittest

from isthmus.frames import Loops
from isthmus.groups import Group, isomorphism


def joined(first, second):
    """First the second permutation, then the first one."""
    return tuple(first[k] for k in second)


class Permutations:
    """A groupoid of one object, whose arrows are permutations."""

    def __init__(self, many):
        self.many = many

    def identity(self, thing):
        return tuple(range(self.many))

    def compose(self, start, middle, end, first, second):
        return joined(second, first)


def group_of(loops):
    return Group(Loops(Permutations(len(loops[0])), 0, loops))


def generated(generators):
    found = [tuple(range(len(generators[0])))]
    for loop in found:
        found += [made for made in {joined(other, loop) for other in generators} if made not in found]
    return found


def beside(*groups):
    """The generators of groups that move different points."""
    many = sum(len(group[0]) for group in groups)
    found, ahead = [], 0
    for group in groups:
        for loop in group:
            found.append(tuple(range(ahead)) + tuple(ahead + k for k in loop) + tuple(range(ahead + len(loop), many)))
        ahead += len(group[0])
    return found


TWO, THREE, FOUR = [(1, 0)], [(1, 2, 0)], [(1, 2, 3, 0)]
SIX, SQUARE = [(1, 2, 0), (1, 0, 2)], [(1, 2, 3, 0), (3, 2, 1, 0)]
ALL_FOUR = [(1, 2, 3, 0), (1, 0, 2, 3)]
EVEN = [(1, 2, 0, 3), (1, 0, 3, 2)]
# The eight quaternions, each as what it makes of all eight, and the group of a circle of eight.
QUATERNIONS = [(1, 4, 7, 2, 5, 0, 3, 6), (2, 3, 4, 5, 6, 7, 0, 1)]
EIGHT = [(1, 2, 3, 4, 5, 6, 7, 0)]
OCTAGON = EIGHT + [(7, 6, 5, 4, 3, 2, 1, 0)]
DEEP = [(3, 2, 1, 0, 6, 7, 5, 4), (4, 5, 6, 7, 1, 0, 3, 2), (5, 4, 7, 6, 1, 0, 2, 3)]

GROUPS = {
    4: [FOUR, beside(TWO, TWO)], 6: [SIX, beside(TWO, THREE)],
    8: [EIGHT, beside(FOUR, TWO), beside(TWO, TWO, TWO), SQUARE, QUATERNIONS],
    12: [EVEN, beside(SIX, TWO), beside(FOUR, THREE), beside(TWO, TWO, THREE)],
    16: [beside(FOUR, FOUR), beside(QUATERNIONS, TWO), beside(SQUARE, TWO), beside(EIGHT, TWO), beside(FOUR, TWO, TWO), OCTAGON],
    24: [ALL_FOUR, beside(EVEN, TWO), beside(SIX, FOUR), beside(SQUARE, THREE), beside(QUATERNIONS, THREE), beside(SIX, TWO, TWO)],
    64: [beside(SQUARE, SQUARE), beside(QUATERNIONS, SQUARE), beside(QUATERNIONS, QUATERNIONS), beside(OCTAGON, FOUR), DEEP],
    81: [beside(THREE, THREE, THREE, THREE)], 144: [beside(ALL_FOUR, SIX), beside(EVEN, EVEN)],
    512: [beside(DEEP, TWO, TWO, TWO), beside(SQUARE, *[TWO] * 6), beside(*[TWO] * 9)],
}


class GroupsTest(unittest.TestCase):

    def shuffled(self, loops, seed):
        loops = list(loops)
        random.Random(seed).shuffle(loops)
        return loops

    def check_images(self, first, second, images):
        self.assertEqual(sorted(images), list(range(len(first.rows))))
        for a in range(0, len(images), 1 + len(images) // 40):
            for b in range(len(images)):
                self.assertEqual(images[first.rows[a][b]], second.rows[images[a]][images[b]])

    def test_tables(self):
        for generators in GROUPS[24] + GROUPS[8]:
            loops = self.shuffled(generated(generators), 3)
            group = group_of(loops)
            for a, b in itertools.product(range(len(loops)), repeat=2):
                self.assertEqual(loops[group.rows[a][b]], joined(loops[a], loops[b]))

    def test_pairs(self):
        for many, rows in GROUPS.items():
            groups = []
            for seed, generators in enumerate(rows):
                loops = generated(generators)
                self.assertEqual(len(loops), many)
                groups.append([group_of(self.shuffled(loops, seed + turn)) for turn in range(2)])
            for one, two in itertools.product(range(len(rows)), repeat=2):
                first, second = groups[one][0], groups[two][1]
                images = isomorphism(first, second)
                self.assertEqual(images is not None, one == two, (many, one, two))
                if images is not None:
                    self.check_images(first, second, images)


if __name__ == "__main__":
    unittest.main()
