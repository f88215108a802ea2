"""Data that are nearly a place, object, step or arrow: taken or refused as the lists of the slow reading tell."""

import random
import unittest

import plain
from compare import thinned
from isthmus.closed import is_equivalence
from isthmus.contexts import back_step, stay_step
from isthmus.errors import BadPlace, BadStep
from isthmus.types import identity, inverse, objects
from short import EMPTY, N, S, SIZE, TYPES, Z, of

ODD = [0, 1, 2, 3, -1, 5, 10 ** 20, (), (0,), (1, 0), (0, 1), (0, 1, 2), ((), ()), ((0,), ((),)), (0, (0,)), "a", None,
       [0], {}]
# The ways from any size to the size 2: two objects, one arrow from each to each.
PATHS = ("pairs", "n", Z(2), ("ways", Z(2), N("n"), ("size", 2, 2)))


def spots(data, path=()):
    """The paths to all parts of the data."""
    found = [path]
    if isinstance(data, tuple):
        for at, part in enumerate(data):
            found += spots(part, path + (at,))
    return found


def part_at(data, path):
    for at in path:
        data = data[at]
    return data


def with_part(data, path, part):
    if not path:
        return part
    return data[:path[0]] + (with_part(data[path[0]], path[1:], part),) + data[path[0] + 1:]


def changed(dice, data):
    """The data with another part in one place: an odd one, one from elsewhere, one more or one less, or twice."""
    path = dice.choice(spots(data))
    part = part_at(data, path)
    turn = dice.randrange(4)
    if turn == 0:
        return with_part(data, path, dice.choice(ODD))
    if turn == 1:
        return with_part(data, path, part_at(data, dice.choice(spots(data))))
    if isinstance(part, int):
        return with_part(data, path, part + dice.choice([-1, 1]))
    at = dice.randrange(len(part) + 1)
    return with_part(data, path, part[:at] + part[at + 1:] if turn == 2 else part[:at] + part[at:at + 1] + part[at:])


class NearTest(unittest.TestCase):

    def check(self, data, found, error, ask):
        """Ask for these data; they must be refused unless they are in the list."""
        if data in found:
            ask(data)
        else:
            with self.assertRaises(error, msg=repr(data)):
                ask(data)

    def test_places_and_steps(self):
        dice = random.Random(1)
        for context, kind in TYPES:
            found = plain.places(context)
            for place in thinned(found, 3):
                for _ in range(4):
                    self.check(changed(dice, place), found, BadPlace, lambda data: stay_step(context, data))
                for other in thinned(found, 3):
                    rows = plain.steps(context, place, other)
                    for step in thinned(rows or [()], 2):
                        self.check(changed(dice, step), rows, BadStep,
                                   lambda data: back_step(context, place, other, data))

    def test_objects_and_arrows(self):
        dice = random.Random(2)
        for context, kind in TYPES:
            for place in thinned(plain.places(context), 3):
                found = plain.objs(context, kind, place)
                for thing in thinned(found, 4):
                    for _ in range(6):
                        self.check(changed(dice, thing), found, BadPlace,
                                   lambda data: identity(context, kind, place, data))
                    for other in thinned(found, 3):
                        rows = plain.arrs(context, kind, place, thing, other)
                        for arrow in thinned(rows or [()], 2):
                            self.check(changed(dice, arrow), rows, BadStep,
                                       lambda data: inverse(context, kind, place, thing, other, data))

    def test_maps_keep_composites(self):
        rest, swap, turn, back = (0, 1, 2), (1, 0, 2), (1, 2, 0), (2, 0, 1)
        sizes = ("maps", "k", Z(2), Z(3))
        self.assertEqual(identity(EMPTY, sizes, (), ((0, 0, 3), ((), (), rest, swap))), ((), (), rest))
        # The exchange done twice is the identity, and a turn done twice is not; so with one arrow beside two.
        self.assertRaises(BadPlace, identity, EMPTY, sizes, (), ((0, 0, 3), ((), (), rest, turn)))
        sizes = ("maps", "k", Z(3), Z(3))
        ahead = ((), (0,), (0, 1), (1, 0))
        for loops in ((rest, swap, swap, rest, rest, swap), (rest, (0, 2, 1), swap, turn, back, (2, 1, 0))):
            self.assertEqual(len(identity(EMPTY, sizes, (), ((0, 1, 2, 3), ahead + loops))), 4)
        for loops in ((rest, swap, (0, 2, 1), rest, rest, swap), (rest, swap, rest, swap, swap, rest),
                      (rest, turn, swap, turn, back, (2, 1, 0)), (rest, rest, rest, turn, back, rest)):
            self.assertRaises(BadPlace, identity, EMPTY, sizes, (), ((0, 1, 2, 3), ahead + loops))
            self.assertIs(is_equivalence(Z(3), Z(3), ((0, 1, 2, 3), ahead + loops)), False)

    def test_maps_keep_identities(self):
        turned, still = (1, 0), (0, 1)
        for kind, right, wrong in (
                (("maps", "k", S(1), Z(2)), ((2,), (still,)), ((2,), (turned,))),
                (("maps", "k", S(2), Z(2)), ((2, 2), (still, still)), ((2, 2), (still, turned))),
                (("maps", "k", Z(1), Z(2)), ((2, 1), (still, (0,))), ((2, 1), (turned, (0,)))),
                (("maps", "k", Z(2), Z(2)),
                 ((0, 0, 2), ((), (), still, turned)), ((0, 0, 2), ((), (), turned, turned))),
                # One class of two objects: all that leads to the first one is turned once more.
                (("maps", "k", PATHS, Z(2)), ((2, 2), (still, turned, turned, still)),
                 ((2, 2), (turned, turned, still, still)))):
            self.assertEqual(len(identity(EMPTY, kind, (), right)), len(right[0]))
            self.assertRaises(BadPlace, identity, EMPTY, kind, (), wrong)
            self.assertRaises(BadPlace, identity, EMPTY, ("classes", kind), (), wrong)
            self.assertRaises(BadPlace, objects, (("f", kind),), S(1), (wrong,))
        there = ("maps", "k", of(3, N("n")), Z(2))
        self.assertRaises(BadPlace, identity, SIZE, there, (1,), ((2,), (turned,)))


if __name__ == "__main__":
    unittest.main()
