"""Terms, closed types and sections where contexts and types are just up to MOST (point 18)."""

import unittest

from isthmus.closed import classes, equivalence, is_equivalence, mass, sections, way
from isthmus.contexts import MOST, places, stay_step
from isthmus.errors import IsthmusError, TooLarge
from isthmus.machine import along, table, value
from isthmus.terms import equal_terms, type_of
from short import EMPTY, N, P, Q, S, Z, of
from test_closed import SQUARE, alone, cycles, product
from test_limits import MARKS, REST, SIXTEEN

FOUR = tuple((name, S(4)) for name in "abcd")
MAPS = ("maps", "k", S(4), S(4))
TWO_SIZES = (("x", Z(4)), ("y", Z(3)))
FULL = ("either", MARKS, REST)
TWOS = [alone(2, "s" + name) for name in "abcdefghi"]


def pairs(first, second, x="k"):
    return ("pair", x, S(4), S(4), first, second)


class ContextsTest(unittest.TestCase):

    def test_four_sets_of_four_points(self):
        term = pairs(N("a"), N("d"))
        rows, tracks = table(FOUR, term)
        self.assertEqual((len(rows), len(tracks)), (256, 256))
        self.assertEqual(rows[27], ((0, 1, 2, 3), (0, 3)))
        self.assertEqual(tracks[27], ((0, 1, 2, 3), (0, 1, 2, 3), ((), (), (), ()), ((), ())))
        self.assertEqual(value(FOUR, term, (3, 2, 1, 0)), (3, 0))
        self.assertEqual(type_of(FOUR, term), ("pairs", "k", S(4), S(4)))
        swapped = pairs(*[("second", "k", S(4), S(4), pairs(N(x), N(y))) for x, y in (("b", "a"), ("c", "d"))])
        self.assertIs(equal_terms(FOUR, term, swapped), True)
        # They differ at the places where a and b do.
        self.assertIs(equal_terms(FOUR, term, pairs(N("b"), N("d"))), False)
        last = ("case", 4, "i", S(4), N("d"), (P(4, 0), P(4, 1), P(4, 2), P(4, 2)))
        self.assertIs(equal_terms(FOUR, N("d"), last), False)
        self.assertIs(equal_terms(FOUR, ("code", 4, ("ways", S(4), N("a"), N("b"))), ("code", 4, ("ways", S(4), N("b"), N("a")))), True)
        self.assertEqual(sections(FOUR, S(1)), [((0,) * 256, ((),) * 256)])
        self.assertEqual(sections(FOUR, S(0)), [])
        self.assertRaises(TooLarge, sections, FOUR, S(2))
        self.assertRaises(TooLarge, sections, FOUR, MAPS)

    def test_one_name_with_many_objects(self):
        context = (("f", MAPS),)
        rows, tracks = table(context, N("f"))
        self.assertEqual((len(rows), len(tracks)), (256, 256))
        self.assertEqual(rows[27], ((((0, 1, 2, 3), ((),) * 4),), ((0, 1, 2, 3), ((),) * 4)))
        again = ("fun", "i", S(4), S(4), ("app", "j", S(4), S(4), N("f"), N("i")))
        self.assertIs(equal_terms(context, again, N("f")), True)
        self.assertIs(equal_terms(context, ("app", "j", S(4), S(4), N("f"), P(4, 2)), ("app", "j", S(4), S(4), N("f"), P(4, 3))), False)
        self.assertEqual(len(sections(context, S(1))), 1)

    def test_just_as_much_as_most(self):
        context = (("p", FULL),)
        found = places(context)
        rows, tracks = table(context, N("p"))
        self.assertEqual([row[0] for row in rows], found)
        self.assertEqual(len(rows) + len(tracks), MOST)
        self.assertTrue(all(row[2] == (row[3],) for row in tracks))
        size = ("split", "z", MARKS, REST, Z(4), "u", ("first",) + MARKS[1:] + (N("u"),), "v", Q(4, 2), N("p"))
        rows, tracks = table(context, size)
        self.assertEqual([thing for _, thing in rows], [place[0][1][0] if place[0][0] == 0 else 2 for place in found])
        self.assertIs(equal_terms(context, size, ("code", 4, of(4, size))), True)
        self.assertIs(equal_terms(context, size, Q(4, 2)), False)
        self.assertEqual(along(context, size, found[-1], found[-1], stay_step(context, found[-1])), (0, 1))
        kind = ("ways", S(2), ("any", of(4, size)), P(2, 1))
        self.assertEqual(sections(context, kind), [])
        self.assertRaises(TooLarge, sections, context, S(2))
        self.assertEqual(len(sections(context, Z(0))), 1)

    def test_two_sizes(self):
        rows, tracks = table(TWO_SIZES, ("code", 4, of(4, N("x"))))
        self.assertEqual((len(rows), len(tracks)), (20, 340))
        self.assertTrue(all(row[3] == row[2][0] for row in tracks))
        points, other = of(4, N("x")), of(3, N("y"))
        maps = ("fun", "i", points, Z(3), N("y"))
        self.assertTrue(all(row[3] == (row[2][1],) * row[0][0] for row in table(TWO_SIZES, maps)[1]))
        self.assertIs(equal_terms(TWO_SIZES, ("fun", "j", points, Z(3), ("code", 3, other)), maps), True)
        self.assertIs(equal_terms(TWO_SIZES, ("fun", "j", points, Z(3), Q(3, 2)), maps), False)
        kind = ("ways", Z(4), N("x"), N("x"))
        # Each size has one way to itself that all others commute with, and a size of two has two.
        self.assertEqual(len(sections(TWO_SIZES, kind)), 2 ** 4)
        self.assertEqual(sections(TWO_SIZES, points), [])
        self.assertRaises(TooLarge, sections, TWO_SIZES, Z(4))

    def test_over_one_size_with_many_arrows(self):
        context = (("r", product(alone(4, "s"), alone(3, "t"))), ("q", alone(2, "u")))
        self.assertEqual(len(table(context, N("r"))[1]), 288)
        # Maps of groups: products of a map from each that commute.
        self.assertEqual(len(sections(context, alone(2, "v"))), 8)
        self.assertEqual(len(sections(context, Z(2))), 2 + 8)
        found = sections(context, Z(3))
        self.assertEqual(len({row[0] for row in found}), 4)
        self.assertEqual(found, sorted(found))


    def test_sections_in_large_groups(self):
        nine = product(*TWOS)
        # The permutations of three or four points have one map of groups to each arrow that is its own inverse.
        self.assertEqual(len(sections((("r", alone(3, "z")),), nine)), 512)
        self.assertEqual(len(sections((("r", alone(4, "z")),), nine)), 512)
        self.assertRaises(TooLarge, sections, (("r", SQUARE),), nine)
        self.assertRaises(TooLarge, sections, (("r", nine),), alone(3, "z"))
        self.assertEqual(len(sections((("r", nine),), alone(2, "z"))), 512)
        self.assertEqual(len(sections((("r", cycles(3, "n")),), nine)), 512)


class ClosedTest(unittest.TestCase):

    def assert_equivalent(self, first, second):
        found = equivalence(first, second)
        self.assertIsNotNone(found)
        self.assertIs(is_equivalence(first, second, found), True)
        changed = (found[0], found[1][1:] + found[1][:1])
        if len(set(found[1])) > 1:
            self.assertIs(is_equivalence(first, second, changed), False)

    def test_four_points_to_four(self):
        self.assertEqual(classes(MAPS), [((values, ((),) * 4), 1) for values, _ in [row[0] for row in classes(MAPS)]])
        self.assertEqual(len(classes(MAPS)), 256)
        self.assertEqual(mass(MAPS), (256, 1))
        self.assertEqual(way(MAPS, ((0, 1, 2, 3), ((),) * 4), ((0, 1, 2, 3), ((),) * 4)), ((),) * 4)
        other = ("pairs", "k", SIXTEEN, SIXTEEN)
        self.assert_equivalent(MAPS, other)
        self.assert_equivalent(other, MAPS)
        self.assertIsNone(equivalence(MAPS, ("either", MAPS, S(1))))
        self.assertIsNone(equivalence(MAPS, ("pairs", "k", SIXTEEN, ("either", S(4), S(3)))))
        self.assertEqual(sections(EMPTY, MAPS), [((row,), (((),) * 4,)) for row, _ in classes(MAPS)])

    def test_just_as_much_as_most(self):
        self.assertEqual(len(classes(FULL)), 15 + 16 + 7)
        # Subsets of sizes, and single points: the sum of 2 ** n / n!, and 23.
        self.assertEqual(mass(FULL), (7 + 23, 1))
        self.assert_equivalent(FULL, ("either", REST, MARKS))
        self.assert_equivalent(("either", REST, MARKS), FULL)

    def test_large_groups(self):
        nine = product(*TWOS)
        self.assertEqual(mass(nine), (1, 512))
        self.assert_equivalent(nine, product(product(*TWOS[:4], x="y"), product(*TWOS[4:], x="z")))
        three = product(SQUARE, product(*TWOS[3:6], x="y"), product(*TWOS[6:], x="z"))
        self.assertEqual(mass(three), (1, 512))
        self.assertIsNone(equivalence(nine, three))
        self.assert_equivalent(three, product(product(*TWOS[3:6], x="y"), product(*TWOS[6:], x="z"), SQUARE))

    def test_equal_masses(self):
        first = product(alone(3, "s"), alone(3, "t"))
        second = product(alone(3, "s"), cycles(3, "n"), TWOS[5])
        self.assertEqual((mass(first), mass(second)), ((1, 36),) * 2)
        self.assertIsNone(equivalence(first, second))
        self.assertIsNone(equivalence(second, first))
        self.assert_equivalent(first, product(alone(3, "t"), alone(3, "s")))
        self.assert_equivalent(second, product(cycles(3, "n"), product(TWOS[5], alone(3, "s"), x="y")))
        large = product(alone(4, "s"), alone(3, "t"), TWOS[5])
        self.assertEqual(mass(large), (1, 288))
        self.assert_equivalent(large, product(TWOS[5], alone(3, "t"), alone(4, "s")))

    def test_large_types(self):
        kind = ("maps", "k", ("pairs", "r", S(4), S(2)), S(4))
        for call in (classes, mass, lambda A: equivalence(A, A), lambda A: sections(EMPTY, A)):
            try:
                call(kind)
            except IsthmusError as error:
                self.assertIsInstance(error, TooLarge)


if __name__ == "__main__":
    unittest.main()
