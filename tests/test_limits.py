"""The limits (point 18): what is just up to MOST is answered, and what is not large is not refused."""

import unittest

from isthmus.contexts import MOST, back_step, join_steps, places, stay_step, steps
from isthmus.errors import NotSmall, TooLarge
from isthmus.types import act, arrows, check_type, equal_types, identity, inverse, is_flat, objects
from short import EMPTY, N, NONE, P, Q, S, Z, of

# For each size n there are 2 ** n marks on its points: 31 objects, and 1 + 2 + 8 + 48 + 384 arrows.
MARKS = ("pairs", "n", Z(4), ("maps", "v", of(4, N("n")), S(2)))
SIXTEEN = ("pairs", "r", S(4), S(4))
MANY = ("either", ("pairs", "q", SIXTEEN, SIXTEEN), S(4))
REST = ("either", SIXTEEN, ("either", S(4), S(3)))
TWICE = ("pairs", "k", Z(4), Z(4))
TWO_ALONE = ("pairs", "s", Z(2), ("ways", S(2), ("any", ("ways", Z(2), N("s"), Q(2, 2))), P(2, 1)))
TWO_SIZES = (("x", Z(4)), ("y", Z(3)))


def extent(kind):
    found = objects(EMPTY, kind, ())
    return len(found) + sum(len(arrows(EMPTY, kind, (), a, b)) for a in found for b in found)


class UpToMostTest(unittest.TestCase):

    def test_extents(self):
        self.assertEqual(len(objects(EMPTY, MANY, ())), 260)
        self.assertEqual(len(objects(EMPTY, ("either", MARKS, REST), ())), 54)
        self.assertEqual(extent(MARKS), 474)
        self.assertEqual(extent(("either", MARKS, REST)), MOST)
        self.assertEqual(extent(("maps", "k", S(2), Z(3))), 116)
        self.assertEqual(len(objects(EMPTY, ("maps", "k", S(4), S(4)), ())), 256)

    def test_contexts(self):
        self.assertEqual(len(places((("a", MANY),))), 260)
        self.assertEqual(len(places(tuple((name, S(4)) for name in ("a", "b", "c", "d")))), 256)
        context = (("p", ("either", MARKS, REST)),)
        found = places(context)
        self.assertEqual(sum(len(steps(context, g, h)) for g in found for h in found), MOST - 54)
        found = places(TWO_SIZES)
        self.assertEqual(len(found), 20)
        self.assertEqual(sum(len(steps(TWO_SIZES, g, h)) for g in found for h in found), 340)

    def test_steps_there(self):
        context = (("p", MARKS),)
        here = (4, ((0, 0, 1, 1), ((),) * 4))
        there = (4, ((1, 1, 0, 0), ((),) * 4))
        found = steps(context, (here,), (there,))
        self.assertEqual(len(found), 4)
        self.assertEqual(found[0], (((2, 3, 0, 1), ((),) * 4),))
        self.assertEqual(back_step(context, (here,), (there,), found[1]), (((3, 2, 0, 1), ((),) * 4),))
        self.assertEqual(join_steps(context, ((here,), (there,), (here,)), found[1], found[0]),
                         (((0, 1, 3, 2), ((),) * 4),))
        self.assertEqual(stay_step(context, (here,)), (((0, 1, 2, 3), ((),) * 4),))

    def test_types_in_large_enough_contexts(self):
        kind = ("maps", "r", of(4, N("x")), Z(2))
        other = ("maps", "r", ("at", "z", Z(4), N("x"), of(4, N("z"))), ("at", "z", Z(2), Q(2, 2), Z(2)))
        self.assertTrue(equal_types(TWO_SIZES, kind, other))
        self.assertFalse(equal_types(TWO_SIZES, kind, ("maps", "r", of(3, N("y")), Z(2))))
        self.assertFalse(is_flat(TWO_SIZES, kind))
        self.assertTrue(is_flat(TWO_SIZES, ("maps", "r", kind, of(4, N("x")))))
        turn, swap = (1, 2, 3, 0), (1, 0, 2)
        thing = ((2, 1, 0, 2), ((0, 1), (0,), (), (0, 1)))
        self.assertEqual(act(TWO_SIZES, kind, (4, 3), (4, 3), (turn, swap), thing),
                         ((2, 2, 1, 0), ((0, 1), (0, 1), (0,), ())))

    def test_terms_over_types_just_up_to_most(self):
        context = (("p", MARKS),)
        size = ("first", "n", Z(4), ("maps", "v", of(4, N("n")), S(2)), N("p"))
        self.assertTrue(equal_types(context, of(4, size), ("at", "q", MARKS, N("p"), of(4, (
            "first", "n", Z(4), ("maps", "v", of(4, N("n")), S(2)), N("q"))))))
        self.assertIsNone(check_type(context, of(4, ("code", 4, of(4, size)))))
        self.assertRaises(NotSmall, check_type, context, of(3, ("code", 3, of(4, size))))
        self.assertEqual(len(objects(EMPTY, ("classes", MARKS), ())), 15)
        self.assertEqual(objects(EMPTY, ("maps", "q", MARKS, S(1)), ()), [((0,) * 31, ((),) * 443)])

    def test_maps_just_up_to_most(self):
        kind = ("maps", "k", S(4), S(4))
        thing = ((3, 2, 1, 0), ((),) * 4)
        self.assertEqual(identity(EMPTY, kind, (), thing), ((),) * 4)
        self.assertEqual(len(places((("f", kind),))), 256)
        self.assertTrue(equal_types(EMPTY, kind, ("maps", "k", of(4, Q(4, 4)), of(4, Q(4, 4)))))

    def test_a_group_of_many_arrows(self):
        kind = ("maps", "k", S(2), Z(3))
        thing = ((3, 3), ((0, 1, 2), (0, 1, 2)))
        self.assertEqual(len(arrows(EMPTY, kind, (), thing, thing)), 36)
        self.assertEqual(inverse(EMPTY, kind, (), thing, thing, ((1, 2, 0), (0, 2, 1))), ((2, 0, 1), (0, 2, 1)))


    def test_a_context_of_many_steps(self):
        # Eight times the size 2, so one place and 256 steps; each of them is its own inverse.
        kind = TWO_ALONE
        for name in "abcdefg":
            kind = ("pairs", name, TWO_ALONE, kind)
        context = (("p", kind),)
        place = places(context)[0]
        found = steps(context, place, place)
        self.assertEqual(len(found), 256)
        self.assertEqual(back_step(context, place, place, found[77]), found[77])
        ways = ("ways", kind, N("p"), N("p"))
        self.assertEqual(objects(context, ways, place), [step[0] for step in found])
        self.assertEqual(act(context, ways, place, place, found[9], found[200][0]), found[200][0])
        self.assertTrue(equal_types(context, ways, ("classes", ways)))
        self.assertFalse(equal_types(context, ways, ("pairs", "r", S(1), ways)))
        # All arrows commute, so each of them makes a map; as many as there are arrows.
        self.assertEqual(len(objects(EMPTY, ("maps", "r", kind, ("ways", kind, N("r"), N("r"))), ())), 256)


class NothingLargeTest(unittest.TestCase):

    def test_no_values_at_one_object(self):
        # Each of the sixteen points on the one side could go to four places, but on the other side there is none.
        side = ("split", "z", S(1), SIXTEEN, Z(4), "u", Q(4, 0), "w", Q(4, 4), N("k"))
        self.assertEqual(objects(EMPTY, ("maps", "k", ("either", S(1), SIXTEEN), of(4, side)), ()), [])

    def test_no_values_along_one_loop(self):
        # Five sizes that are 2, so 32 arrows from the one object to itself; over it two points, which the first of the
        # sizes exchanges, each with 16 arrows to itself. No point stays, so there is no map, whatever the other loops do.
        def twos(names):
            kind = TWO_ALONE
            for name in names:
                kind = ("pairs", name, TWO_ALONE, kind)
            return kind

        base = twos("abcd")
        points = of(2, ("first",) + TWO_ALONE[1:] + (("first",) + base[1:] + (N("k"),),))
        self.assertEqual(len(arrows(EMPTY, base, (), *objects(EMPTY, base, ()) * 2)), 32)
        over = ("pairs", "q", points, twos("abc"))
        self.assertEqual(objects(EMPTY, ("maps", "k", base, over), ()), [])
        self.assertEqual(objects(EMPTY, ("maps", "k", base, ("pairs", "q", points, S(1))), ()), [])

    def test_terms_that_stand_for_others(self):
        # Each name stands for a choice that holds the name ahead of it three times.
        def chain(letters, last):
            kind = ("ways", S(2), N(letters[-1]), P(2, last))
            for at in reversed(range(len(letters))):
                ahead = N(letters[at - 1])
                term = ("case", 2, "case", S(2), ahead, (ahead, ahead)) if at else P(2, 1)
                kind = ("at", letters[at], S(2), term, kind)
            return kind

        self.assertTrue(equal_types(EMPTY, chain("abcdefghijklmnopqr", 1), chain("rqponmlkjihgfedcba", 1)))
        self.assertFalse(equal_types(EMPTY, chain("abcdefghijklmnopqr", 1), chain("rqponmlkjihgfedcba", 0)))

    def test_nothing_is_large_without_places(self):
        huge = ("maps", "k", Z(4), ("maps", "q", Z(4), Z(4)))
        self.assertIsNone(check_type(NONE, huge))
        self.assertTrue(is_flat(NONE, huge))
        self.assertTrue(equal_types(NONE, huge, S(1)))
        self.assertEqual(places(NONE + (("f", huge), ("g", huge))), [])

    def test_many_names(self):
        names = [a + b for a in "abcdefgh" for b in "klmnop"]
        context = tuple((name, S(1)) for name in names)
        self.assertEqual(places(context), [(0,) * 48])
        self.assertEqual(steps(context, (0,) * 48, (0,) * 48), [((),) * 48])
        self.assertTrue(equal_types(context, ("ways", S(1), N("ak"), N("hp")), ("ways", S(1), N("hp"), N("ak"))))

    def test_types_far_down(self):
        kind = S(2)
        for _ in range(60):
            kind = ("classes", ("either", S(0), kind))
        self.assertEqual(len(objects(EMPTY, kind, ())), 2)
        term = Q(2, 2)
        for _ in range(60):
            term = ("given", "x", S(1), P(1, 0), term) if term == Q(2, 2) else ("case", 1, "y", Z(2), P(1, 0), (term,))
        self.assertEqual(objects(EMPTY, of(2, term), ()), [0, 1])


class LargeTest(unittest.TestCase):
    """The program may refuse these; it does so soon."""

    def test_objects(self):
        for kind in (("maps", "k", Z(3), Z(3)), ("maps", "k", Z(4), ("maps", "q", Z(4), Z(4))),
                     ("maps", "k", MANY, S(2)), ("maps", "k", MARKS, MARKS), ("maps", "k", MARKS, S(2)),
                     ("pairs", "k", SIXTEEN, ("pairs", "q", SIXTEEN, SIXTEEN)), ("either", MANY, ("either", MANY, MANY)),
                     ("maps", "k", TWICE, S(1)), ("classes", TWICE),
                     ("maps", "k", ("pairs", "q", ("classes", Z(4)), Z(3)), ("maps", "r", S(3), ("maps", "t", S(3), S(2))))):
            self.assertRaises(TooLarge, objects, EMPTY, kind, ())

    def test_arrows(self):
        pair = (4, 4)
        self.assertRaises(TooLarge, arrows, EMPTY, TWICE, (), pair, pair)
        rest = ((0, 1, 2, 3), (0, 1, 2, 3))
        self.assertEqual(identity(EMPTY, TWICE, (), pair), rest)
        self.assertRaises(TooLarge, arrows, EMPTY, ("maps", "k", S(2), Z(4)), (), (pair, rest), (pair, rest))
        self.assertRaises(TooLarge, objects, EMPTY, ("classes", ("maps", "k", S(2), Z(4))), ())

    def test_contexts(self):
        self.assertRaises(TooLarge, places, tuple((name, S(4)) for name in ("a", "b", "c", "d", "e")))
        self.assertRaises(TooLarge, places, (("f", ("maps", "k", Z(3), Z(3))),))
        context = (("x", Z(4)), ("y", Z(4)))
        self.assertEqual(len(places(context)), 25)
        self.assertRaises(TooLarge, steps, context, (4, 4), (4, 4))
        self.assertTrue(equal_types(context, of(4, N("x")), of(4, ("code", 4, of(4, N("x"))))))
        self.assertFalse(equal_types(context, of(4, N("x")), of(4, N("y"))))
        self.assertTrue(equal_types(context, of(4, N("x")), ("at", "z", Z(4), N("x"), of(4, N("z")))))
        self.assertEqual(len(steps(context, (3, 4), (3, 4))), 144)

    def test_a_difference_that_one_object_shows(self):
        large = ("maps", "k", Z(3), Z(3))
        other = ("maps", "k", Z(3), Z(2))
        for first, second in ((large, S(1)), (large, other), (("either", S(1), large), ("either", S(1), other)),
                              (("pairs", "r", S(2), large), ("pairs", "r", S(2), other)),
                              (("maps", "q", MANY, S(3)), ("maps", "q", MANY, S(2))),
                              (("maps", "q", MARKS, Z(3)), ("maps", "q", MARKS, Z(2)))):
            self.assertFalse(equal_types(EMPTY, first, second))
            self.assertFalse(equal_types(EMPTY, second, first))

    def test_equal_ones_are_not_told_apart(self):
        # What is over the size 2 on the right is exchanged by an arrow, so no map goes there.
        two = ("pairs", "k", Z(2), ("ways", S(2), ("any", ("ways", Z(2), N("k"), Q(2, 2))), P(2, 1)))
        size = ("split", "z", two, SIXTEEN, Z(2), "u", ("first",) + two[1:] + (N("u"),), "w", Q(2, 0), N("s"))

        def maps(right):
            return ("maps", "s", ("either", two, SIXTEEN), ("either", S(2), right))

        first, second = maps(of(2, size)), maps(("pairs", "t", of(2, size), S(1)))
        for pair in ((first, second), (second, first)):
            try:
                self.assertTrue(equal_types(EMPTY, *pair))
            except TooLarge:
                pass
        self.assertTrue(equal_types(EMPTY, first, maps(("at", "m", Z(2), Q(2, 2), of(2, size)))))


if __name__ == "__main__":
    unittest.main()
