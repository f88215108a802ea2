"""Closed types: classes, masses, ways and equivalences (points 3, 5, 10, 16, 17)."""

import unittest

import plain
import plain_closed
from isthmus.closed import classes, equivalence, is_equivalence, mass, way
from isthmus.types import arrows, objects
from short import EMPTY, N, P, Q, S, TYPES, Z, const, of


def alone(m, x):
    """The one size m, with all its permutations."""
    return ("pairs", x, Z(m), ("ways", S(2), ("any", ("ways", Z(m), N(x), Q(m, m))), P(2, 1)))


def product(*kinds, x="x"):
    found = kinds[0]
    for at, kind in enumerate(kinds[1:]):
        found = ("pairs", "abcdefgh"[at] + x, found, kind)
    return found


def cycles(m, x):
    """The permutations of m points that leave no point in its place, nor bring one back if done twice."""
    points = of(m, N(x))
    there = ("carry", "i", Z(m), of(m, N("i")), N(x), N(x), N("w"), N("q"))
    twice = ("carry", "i", Z(m), of(m, N("i")), N(x), N(x), N("w"), there)
    back = ("any", ("pairs", "q", points, ("ways", points, N("q"), twice)))
    few = ("any", ("ways", Z(m), N(x), Q(m, m)))
    kept = ("pairs", "k", ("ways", S(2), back, P(2, 0)), ("ways", S(2), few, P(2, 1)))
    return ("pairs", x, Z(m), ("pairs", "w", ("ways", Z(m), N(x), N(x)), kept))


POINTED = ("pairs", "k", Z(3), of(3, N("k")))
MARKS = ("pairs", "n", Z(3), ("maps", "v", of(3, N("n")), S(2)))
TURNS = ("pairs", "n", Z(3), ("ways", Z(3), N("n"), N("n")))
SQUARE = ("pairs", "m", alone(2, "s"), ("maps", "q", of(2, ("first",) + alone(2, "s")[1:] + (N("m"),)), alone(2, "t")))

CLASSES = [
    (S(0), [], (0, 1)), (S(3), [(0, 1), (1, 1), (2, 1)], (3, 1)), (Z(0), [(0, 1)], (1, 1)),
    (Z(3), [(0, 1), (1, 1), (2, 2), (3, 6)], (8, 3)), (Z(4), [(0, 1), (1, 1), (2, 2), (3, 6), (4, 24)], (65, 24)),
    (of(4, Q(4, 3)), [(0, 1), (1, 1), (2, 1)], (3, 1)), (POINTED, [((1, 0), 1), ((2, 0), 1), ((3, 0), 2)], (5, 2)),
    (("pairs", "k", Z(2), S(2)), [((0, 0), 1), ((0, 1), 1), ((1, 0), 1), ((1, 1), 1), ((2, 0), 2), ((2, 1), 2)], (5, 1)),
    (("pairs", "k", S(2), S(0)), [], (0, 1)), (("maps", "k", S(0), Z(2)), [(((), ()), 1)], (1, 1)),
    (("maps", "k", S(1), Z(2)), [(((k,), (tuple(range(k)),)), [1, 1, 2][k]) for k in range(3)], (5, 2)),
    # Subsets of n points: up to order only their numbers count, and k! (n - k)! arrows keep one.
    (MARKS, [((0, ((), ())), 1), ((1, ((0,), ((),))), 1), ((1, ((1,), ((),))), 1), ((2, ((0, 0), ((), ()))), 2),
             ((2, ((0, 1), ((), ()))), 1), ((2, ((1, 1), ((), ()))), 2), ((3, ((0, 0, 0), ((),) * 3)), 6),
             ((3, ((0, 0, 1), ((),) * 3)), 2), ((3, ((0, 1, 1), ((),) * 3)), 2), ((3, ((1, 1, 1), ((),) * 3)), 6)], (19, 3)),
    # Permutations up to conjugation, with those that commute with them.
    (TURNS, [((0, ()), 1), ((1, (0,)), 1), ((2, (0, 1)), 2), ((2, (1, 0)), 2), ((3, (0, 1, 2)), 6), ((3, (0, 2, 1)), 2),
             ((3, (1, 2, 0)), 3)], (4, 1)),
    (("ways", Z(3), Q(3, 3), Q(3, 3)), [(u, 1) for u in [(0, 1, 2), (0, 2, 1), (1, 0, 2), (1, 2, 0), (2, 0, 1), (2, 1, 0)]],
     (6, 1)),
    (("ways", Z(3), Q(3, 3), Q(3, 2)), [], (0, 1)),
    (("either", Z(2), S(2)), [((0, 0), 1), ((0, 1), 1), ((0, 2), 2), ((1, 0), 1), ((1, 1), 1)], (9, 2)),
    (("classes", POINTED), [((1, 0), 1), ((2, 0), 1), ((3, 0), 1)], (3, 1)),
    (("at", "k", Z(3), Q(3, 2), ("pairs", "q", of(3, N("k")), Z(1))), [((i, k), 1) for i in (0, 1) for k in (0, 1)], (4, 1)),
    (alone(4, "s"), [((4, ()), 24)], (1, 24)), (SQUARE, [(((2, ()), (((2, ()), (2, ())), (((0, 1), ()), ((0, 1), ())))), 8)], (1, 8)),
    (product(alone(4, "s"), alone(3, "t")), [(((4, ()), (3, ())), 144)], (1, 144)),
    (cycles(4, "n"), [((4, ((1, 2, 3, 0), ((), ()))), 4)], (1, 4)), (cycles(3, "n"), [((3, ((1, 2, 0), ((), ()))), 3)], (1, 3)),
]

ONE_WORD = ("pairs", "k", ("classes", Z(2)), S(1))

EQUIVALENT = [
    (S(0), S(0)), (S(0), ("pairs", "k", Z(3), S(0))), (S(1), Z(0)), (S(2), Z(1)), (S(2), ("ways", Z(2), Q(2, 2), Q(2, 2))),
    (S(4), ("pairs", "k", S(2), S(2))), (S(4), ("maps", "k", S(2), S(2))), (S(3), ("classes", Z(2))), (S(3), ONE_WORD),
    # A size with one of its points is a size, the rest of the points.
    (POINTED, Z(2)), (("pairs", "k", Z(4), of(4, N("k"))), Z(3)),
    (("maps", "k", S(2), Z(2)), ("pairs", "k", Z(2), Z(2))), (("maps", "k", S(0), Z(4)), S(1)),
    (("either", Z(2), S(1)), ("either", S(1), Z(2))), (("either", S(2), S(2)), S(4)),
    (("pairs", "k", S(2), Z(2)), ("either", Z(2), Z(2))), (("pairs", "k", Z(2), Z(3)), ("pairs", "k", Z(3), Z(2))),
    (alone(2, "s"), ("pairs", "k", alone(2, "s"), S(1))), (alone(3, "s"), ("at", "k", S(1), P(1, 0), alone(3, "t"))),
    (product(alone(2, "s"), cycles(3, "n")), product(cycles(3, "n"), alone(2, "s"))),
    (("maps", "k", S(2), alone(2, "s")), product(alone(2, "s"), alone(2, "t"))),
    # Three points with two that are exchanged: the exchange does nothing (6 arrows keep this), or moves two of the three.
    (("maps", "k", alone(2, "s"), alone(3, "t")), ("either", alone(3, "t"), alone(2, "s"))), (SQUARE, SQUARE),
]

DIFFERENT = [
    (S(2), S(3)), (S(2), S(0)), (S(0), S(1)), (Z(2), S(3)), (Z(2), Z(3)), (S(1), alone(2, "s")),
    # Equal masses: twice a half is one, and groups of four, six and eight arrows of both kinds.
    (("either", alone(2, "s"), alone(2, "t")), S(1)), (("either", alone(2, "s"), ("either", alone(3, "t"), alone(3, "t"))),
                                                      ("either", cycles(3, "n"), ("either", cycles(3, "n"), alone(3, "t")))),
    (cycles(4, "n"), product(alone(2, "s"), alone(2, "t"))), (alone(3, "s"), product(cycles(3, "n"), alone(2, "t"))),
    (SQUARE, product(alone(2, "a"), alone(2, "b"), alone(2, "c"))), (SQUARE, product(cycles(4, "n"), alone(2, "c"))),
    (product(cycles(4, "n"), alone(2, "c")), product(alone(2, "a"), alone(2, "b"), alone(2, "c"))),
    (product(alone(3, "a"), alone(2, "b"), alone(2, "c")), product(cycles(3, "a"), SQUARE)),
]


class ClosedTest(unittest.TestCase):

    def tearDown(self):
        for name in dir(plain):
            if hasattr(getattr(plain, name), "cache_clear"):
                getattr(plain, name).cache_clear()


class ClassesTest(ClosedTest):

    def test_classes_and_masses(self):
        for kind, rows, wanted in CLASSES:
            with self.subTest(kind=kind):
                self.assertEqual(classes(kind), rows)
                self.assertEqual(mass(kind), wanted)
                self.assertEqual(plain_closed.classes(kind), rows)
                self.assertEqual(plain_closed.mass(kind), wanted)

    def test_new_lists(self):
        for _ in range(2):
            found = classes(Z(1))
            self.assertEqual(found, [(0, 1), (1, 1)])
            found.clear()

    def test_samples(self):
        for context, kind in TYPES:
            if context == EMPTY:
                try:
                    rows = plain_closed.classes(kind)
                except plain.Skip:
                    continue
                self.assertEqual(classes(kind), rows)
                self.assertEqual(mass(kind), plain_closed.mass(kind))

    def test_ways(self):
        self.assertEqual(way(S(3), 2, 2), ())
        self.assertIsNone(way(S(3), 0, 2))
        self.assertEqual(way(Z(4), 3, 3), (0, 1, 2))
        self.assertEqual(way(Z(4), 0, 0), ())
        self.assertIsNone(way(Z(4), 3, 4))
        self.assertEqual(way(POINTED, (3, 0), (3, 2)), ((2, 0, 1), ()))
        self.assertEqual(way(POINTED, (3, 2), (3, 0)), ((1, 2, 0), ()))
        self.assertIsNone(way(POINTED, (3, 0), (2, 0)))
        self.assertEqual(way(TURNS, (3, (1, 2, 0)), (3, (2, 0, 1))), ((0, 2, 1), ()))
        self.assertEqual(way(("either", Z(2), S(1)), (0, 2), (0, 2)), (0, 1))
        self.assertIsNone(way(("either", Z(2), S(1)), (0, 0), (1, 0)))
        maps = ("maps", "k", S(2), Z(2))
        thing = ((2, 1), ((0, 1), (0,)))
        self.assertEqual(way(maps, thing, thing), ((0, 1), (0,)))
        self.assertEqual(way(("ways", maps, const("k", S(2), Q(2, 2)), const("k", S(2), Q(2, 2))), ((1, 0), (0, 1)),
                             ((1, 0), (0, 1))), ())

    def test_ways_are_the_least_arrows(self):
        for kind in (MARKS, TURNS, POINTED, ("maps", "k", Z(2), Z(2)), ("maps", "k", Z(1), Z(3)), ("classes", Z(2))):
            found = objects(EMPTY, kind, ())
            for start in found:
                for end in found:
                    rows = arrows(EMPTY, kind, (), start, end)
                    self.assertEqual(way(kind, start, end), min(rows) if rows else None)


class EquivalenceTest(ClosedTest):

    def assert_equivalent(self, first, second, same=True):
        for one, two in ((first, second), (second, first)):
            found = equivalence(one, two)
            self.assertEqual(found is not None, same, (one, two))
            self.assertEqual(plain_closed.equivalent(one, two), same)
            if same:
                self.assertIs(is_equivalence(one, two, found), True)
                self.assertTrue(plain_closed.is_equivalence(one, two, found))
                self.assertEqual(mass(one), mass(two))

    def test_equivalent(self):
        for first, second in EQUIVALENT:
            with self.subTest(first=first, second=second):
                self.assert_equivalent(first, second)

    def test_with_itself(self):
        for kind in [row[0] for row in CLASSES]:
            with self.subTest(kind=kind):
                found = equivalence(kind, kind)
                self.assertIs(is_equivalence(kind, kind, found), True)

    def test_different(self):
        for first, second in DIFFERENT:
            with self.subTest(first=first, second=second):
                self.assert_equivalent(first, second, False)

    def test_samples_with_each_other(self):
        kinds = [kind for context, kind in TYPES if context == EMPTY]
        for one in kinds:
            for two in kinds:
                try:
                    wanted = plain_closed.equivalent(one, two)
                except plain.Skip:
                    continue
                found = equivalence(one, two)
                self.assertEqual(found is not None, wanted, (one, two))
                self.assertTrue(found is None or is_equivalence(one, two, found))

    def test_the_example(self):
        self.assertIs(is_equivalence(S(2), S(2), ((1, 0), ((), ()))), True)
        self.assertIs(is_equivalence(S(2), S(2), ((0, 1), ((), ()))), True)
        self.assertIs(is_equivalence(S(2), S(2), ((1, 1), ((), ()))), False)
        self.assertIs(is_equivalence(S(0), S(0), ((), ())), True)
        self.assertEqual(equivalence(S(0), S(0)), ((), ()))
        self.assertIsNone(equivalence(S(0), S(1)))
        self.assertIs(is_equivalence(S(0), S(1), ((), ())), False)
        self.assertIs(is_equivalence(S(1), S(2), ((0,), ((),))), False)
        self.assertIs(is_equivalence(S(2), S(1), ((0, 0), ((), ()))), False)

    def test_values_of_another_shape(self):
        for value in (0, -1, 7, (), (0,), (1, 0), ((1, 0),), ((1, 0), ()), ((1, 0), ((),)), ((1, 0), ((), (), ())), ((1, 0), 0),
                      (0, ((), ())), ((1, 0, 1), ((), ())), ((1, 2), ((), ())), ((1, -1), ((), ())), ((1, ()), ((), ())),
                      ((1, 0), ((), 0)), ((1, 0), ((), (0,))), (((1, 0), ((), ())),), ((1, 0), ((), ()), ()), (((), ()), (1, 0))):
            self.assertIs(is_equivalence(S(2), S(2), value), False, value)

    def test_values_of_sizes(self):
        right = ((0, 1, 2), ((), (0,), (0, 1), (1, 0)))
        self.assertIs(is_equivalence(Z(2), Z(2), right), True)
        # Sizes 0 and 1 both have one arrow to themselves.
        self.assertIs(is_equivalence(Z(2), Z(2), ((1, 0, 2), ((0,), (), (0, 1), (1, 0)))), True)
        for value in (((0, 1, 2), ((), (0,), (0, 1), (0, 1))), ((0, 1, 2), ((), (0,), (1, 0), (0, 1))),
                      ((0, 1, 2), ((), (0,), (1, 0), (1, 0))), ((0, 1, 2), ((), (), (0, 1), (1, 0))), ((0, 0, 2), ((), (), (0, 1), (1, 0))),
                      ((1, 0, 2), ((), (0,), (0, 1), (1, 0))), ((2, 1, 0), ((0, 1), (0,), (), ())), ((0, 1, 1), ((), (0,), (0,), (0,))),
                      ((2, 1, 2), ((0, 1), (0,), (0, 1), (1, 0)))):
            self.assertIs(is_equivalence(Z(2), Z(2), value), False, value)
        six = alone(3, "s")
        lines = arrows(EMPTY, six, (), (3, ()), (3, ()))
        # Each permutation with a turn ahead of it and the turn back behind it.
        turned = {u: (tuple((1, 2, 0)[u[0][k]] for k in (2, 0, 1)), ()) for u in lines}
        self.assertIs(is_equivalence(six, six, (((3, ()),), tuple(turned[u] for u in lines))), True)
        self.assertIs(is_equivalence(six, six, (((3, ()),), tuple(reversed(lines)))), False)
        self.assertIs(is_equivalence(six, six, (((3, ()),), (lines[0],) * 6)), False)
        swapped = lines[:1] + [lines[2], lines[1]] + lines[3:]
        self.assertIs(is_equivalence(six, six, (((3, ()),), tuple(swapped))), False)

    def test_one_thing_changed(self):
        for first, second in EQUIVALENT[2:]:
            found = equivalence(first, second)
            ends = objects(EMPTY, second, ())
            for at in range(len(found[0])):
                for thing in ends + [99, (), (5,)]:
                    values = found[0][:at] + (thing,) + found[0][at + 1:]
                    self.check_value(first, second, (values, found[1]))
            for at in list(range(len(found[1])))[:12]:
                for arrow in sorted(set(found[1][:12]), key=repr) + [0, (9,)]:
                    links = found[1][:at] + (arrow,) + found[1][at + 1:]
                    self.check_value(first, second, (found[0], links))
            self.check_value(first, second, (found[0][1:], found[1]))
            self.check_value(first, second, (found[0], found[1] + ((),)))

    def check_value(self, first, second, value):
        self.assertIs(is_equivalence(first, second, value), plain_closed.is_equivalence(first, second, value), (first, second, value))


if __name__ == "__main__":
    unittest.main()
