"""Types that hold one another three deep, with arrows between different objects at each depth, and terms over them.

All of it is compared with the slow reading. Arrows between different objects show whether ends are told apart.
"""

import unittest

import plain
from compare import compare_context, compare_type
from isthmus.types import act, arrows, compose, equal_types, identity, inverse, is_flat, objects
from short import EMPTY, N, P, Q, S, SIZE, Z, of

POINTED = ("pairs", "k", Z(2), of(2, N("k")))
MARKED = ("pairs", "k", Z(2), ("maps", "q", of(2, N("k")), Z(1)))
COUNTED = ("pairs", "k", Z(2), ("maps", "q", of(2, N("k")), Z(2)))
# One object each: the size 2 with two arrows, the size 3 with six.
TWO = ("pairs", "k", Z(2), ("ways", S(2), ("any", ("ways", Z(2), N("k"), Q(2, 2))), P(2, 1)))
THREE = ("pairs", "k", Z(3), ("ways", S(2), ("any", ("ways", Z(3), N("k"), Q(3, 3))), P(2, 1)))


def head(kind, x):
    """The first part of a name of a type of pairs."""
    return ("first",) + kind[1:] + (N(x),)


# The two points of the size 2: one class, told by its size, by the one mark, and by a point.
BOTH = ("pairs", "b", TWO, of(2, head(TWO, "b")))
AB = (("a", POINTED), ("b", POINTED))
ABW = AB + (("w", ("ways", POINTED, N("a"), N("b"))),)


def listed(x, kind=S(2)):
    """A size over a name of POINTED: its point as often as the type has objects, the other one once.

    Where the two points are exchanged, the first of three goes second or last: there and back are unlike each other.
    If a step exchanges the objects of the type, it does so to the first two of three, or to the last two.
    """
    points = of(2, head(POINTED, x))
    marked = ("second",) + POINTED[1:] + (N(x),)
    doubled = ("maps", "w", ("ways", points, marked, N("u")), kind)
    return ("code", 3, ("pairs", "u", points, doubled))


def spread(x, kind=S(2)):
    """The maps from the points of this size to the type that has two arrows alone."""
    return ("maps", "v", of(3, listed(x, kind)), TWO)


SPREAD = ("pairs", "c", POINTED, spread("c"))


def mixed(size):
    """The same where a size that steps can move tells how often the points stand."""
    return ("pairs", "c", POINTED, spread("c", of(2, size)))


class OneWayTest(unittest.TestCase):
    """What goes along an arrow from one object to another one here does not go so along the arrow back."""

    def compare(self, *samples):
        for context, kind in samples:
            with self.subTest(context=context, kind=kind):
                compare_type(self, context, kind, 14)

    def test_the_two_ways(self):
        kind = of(3, listed("a"))
        context = (("a", POINTED),)
        swap = (((1, 0), ()),)
        self.assertEqual([act(context, kind, ((2, 0),), ((2, 1),), swap, k) for k in range(3)], [1, 2, 0])
        self.assertEqual([act(context, kind, ((2, 1),), ((2, 0),), swap, k) for k in range(3)], [2, 0, 1])

    def test_pairs(self):
        self.compare((EMPTY, SPREAD), (EMPTY, ("pairs", "d", SPREAD, S(1))), (EMPTY, ("either", SPREAD, S(1))),
                     (EMPTY, ("pairs", "c", POINTED, of(3, listed("c")))),
                     (EMPTY, ("pairs", "c", POINTED, ("pairs", "d", of(3, listed("c")), TWO))),
                     (EMPTY, ("pairs", "c", POINTED, ("ways", Z(3), listed("c"), listed("c")))),
                     (EMPTY, ("pairs", "d", BOTH, ("maps", "r", S(1), SPREAD))))

    def test_maps(self):
        self.compare((EMPTY, ("maps", "d", S(1), SPREAD)), (EMPTY, ("maps", "d", TWO, SPREAD)),
                     (EMPTY, ("maps", "c", POINTED, of(3, listed("c")))),
                     (EMPTY, ("maps", "c", POINTED, ("pairs", "d", of(3, listed("c")), TWO))),
                     (EMPTY, ("maps", "c", POINTED, ("ways", Z(3), listed("c"), listed("c")))))

    def test_in_contexts(self):
        one = (("a", POINTED),)
        two = (("a", SPREAD),)
        self.compare((one, spread("a")), (one, ("pairs", "d", of(3, listed("a")), TWO)), (one, ("either", S(1), spread("a"))),
                     (one, ("maps", "d", S(1), spread("a"))), (one, ("pairs", "d", S(1), spread("a"))),
                     (one, ("ways", Z(3), listed("a"), Q(3, 3))), (one, ("ways", Z(3), listed("a"), listed("a"))),
                     (one, ("maps", "d", spread("a"), S(1))), (one, ("classes", ("pairs", "d", of(3, listed("a")), TWO))),
                     (two, ("ways", SPREAD, N("a"), N("a"))),
                     (two, ("pairs", "d", S(1), ("ways", SPREAD, N("a"), N("a")))))

    def test_mixed(self):
        one = (("n", Z(2)), ("t", ("ways", Z(2), N("n"), Q(2, 2))))
        two = (("b", TWO),)
        pairs = mixed(head(TWO, "b"))
        self.compare((one, mixed(N("n"))), (one, ("either", S(1), mixed(N("n")))), (one, ("pairs", "d", S(1), mixed(N("n")))),
                     (one, ("maps", "d", S(1), mixed(N("n")))), (one, ("maps", "d", mixed(N("n")), S(1))),
                     (EMPTY, ("pairs", "b", TWO, pairs)), (EMPTY, ("maps", "b", TWO, pairs)),
                     (two, pairs), (two, ("classes", pairs)), (EMPTY, ("pairs", "b", TWO, ("either", S(1), pairs))))

    def test_mixed_contexts(self):
        for context in ((("b", TWO), ("d", mixed(head(TWO, "b")))), (("b", ("pairs", "b", TWO, mixed(head(TWO, "b")))),)):
            with self.subTest(context=context):
                compare_context(self, context)

    def test_three_points(self):
        three = ("pairs", "k", Z(3), of(3, N("k")))
        self.assertEqual(arrows(EMPTY, three, (), (3, 0), (3, 1)), [((1, 0, 2), ()), ((1, 2, 0), ())])
        told = [("pair", "k", Z(3), of(3, N("k")), Q(3, 3), P(3, point)) for point in (0, 1)]
        loose = ("pairs", "j", Z(3), ("ways", Z(3), N("j"), head(THREE, "b")))
        self.compare((EMPTY, ("ways", three, told[0], told[1])), (EMPTY, ("pairs", "d", S(1), three)),
                     (EMPTY, ("either", S(1), three)), (EMPTY, ("maps", "b", THREE, loose)), (EMPTY, ("maps", "d", S(1), three)))

    def test_maps_on_mixed_ones(self):
        # Too many candidates to be read slowly: what a step makes of each map is a map, and back again it is the same.
        context = (("n", Z(2)),)
        kind = ("maps", "d", mixed(N("n")), TWO)
        found = objects(context, kind, (2,))
        self.assertEqual(len(found), 64)
        moved = [act(context, kind, (2,), (2,), ((1, 0),), thing) for thing in found]
        self.assertEqual(sorted(moved), found)
        self.assertNotEqual(moved, found)
        self.assertEqual([act(context, kind, (2,), (2,), ((1, 0),), thing) for thing in moved], found)

    def test_maps_with_arrows_of_their_own(self):
        maps = ("maps", "b", TWO, mixed(head(TWO, "b")))
        self.compare((EMPTY, ("classes", maps)), (EMPTY, ("maps", "e", maps, S(1))))

    def test_ways_that_go_along(self):
        context = (("b", TWO),)
        pairs = mixed(head(TWO, "b"))
        kind = ("pairs", "i", pairs, ("pairs", "j", pairs, ("ways", pairs, N("i"), N("j"))))
        place = plain.places(context)[0]
        for g, h, s in plain.all_steps(context):
            for thing in plain.objs(context, kind, place):
                self.assertEqual(act(context, kind, g, h, s, thing), plain.act(context, kind, g, h, s, thing))

    def test_led(self):
        led = ("led", "x", POINTED, Z(3), listed("x"), N("a"), N("b"), N("way"))
        context = AB + (("way", ABW[2][1]),)
        ends = [("given", "x", POINTED, N(name), listed("x")) for name in ("a", "b")]
        kind = ("ways", Z(3), ends[0], ends[1])
        place = ((2, 0), (2, 1), ((1, 0), ()))
        self.assertEqual(objects(context, ("pairs", "s", kind, ("ways", kind, N("s"), led)), place), [((1, 2, 0), ())])
        place = ((2, 1), (2, 0), ((1, 0), ()))
        self.assertEqual(objects(context, ("pairs", "s", kind, ("ways", kind, N("s"), led)), place), [((2, 0, 1), ())])

    def test_fun(self):
        maps = ("maps", "x", POINTED, Z(3))
        function = ("fun", "x", POINTED, Z(3), listed("x"))
        ahead, rest = (0, 1), (0, 1, 2)
        right = ((2, 3, 3), (ahead, rest, (1, 2, 0), (2, 0, 1), rest))
        wrong = ((2, 3, 3), (ahead, rest, (2, 0, 1), (1, 2, 0), rest))
        kind = ("ways", maps, N("f"), function)
        self.assertIn((ahead, rest, rest), objects((("f", maps),), kind, (right,)))
        self.assertNotIn((ahead, rest, rest), objects((("f", maps),), kind, (wrong,)))

    def test_split(self):
        context = (("e", ("either", POINTED, Z(2))),)
        term = ("split", "z", POINTED, Z(2), Z(3), "x", listed("x"), "y", ("code", 3, of(2, N("y"))), N("e"))
        self.compare((context, of(3, term)))

    def test_contexts(self):
        for context in ((("c", POINTED), ("m", spread("c"))), (("c", POINTED), ("p", of(3, listed("c"))), ("q", TWO)),
                        (("s", SPREAD),), (("e", ("either", SPREAD, S(1))),), (("d", ("maps", "r", S(1), SPREAD)),)):
            with self.subTest(context=context):
                compare_context(self, context)

    def test_terms(self):
        kind = ("ways", SPREAD, N("a"), N("a"))
        context = (("a", SPREAD), ("way", kind))
        back = ("back", SPREAD, N("a"), N("a"), N("way"))
        thrice = ("join", SPREAD, N("a"), N("a"), N("a"), ("join", SPREAD, N("a"), N("a"), N("a"), N("way"), N("way")), back)
        for place in plain.places(context)[::5]:
            for term in (back, thrice):
                same = plain.val(context, term, place) == place[1]
                self.assertEqual(objects(context, ("ways", kind, term, N("way")), place), [()] if same else [])


class DeepContextsTest(unittest.TestCase):

    def test_contexts(self):
        for context in (
                AB, ABW,
                (("a", POINTED), ("f", ("maps", "q", of(2, head(POINTED, "a")), Z(1)))),
                (("a", MARKED), ("p", of(2, head(MARKED, "a"))), ("w", ("ways", MARKED, N("a"), N("a")))),
                (("e", ("either", POINTED, Z(1))), ("w", ("ways", ("either", POINTED, Z(1)), N("e"), N("e")))),
                (("a", TWO), ("f", ("maps", "q", of(2, head(TWO, "a")), TWO))),
                (("a", POINTED), ("c", ("pairs", "i", POINTED, ("ways", POINTED, N("i"), N("a"))))),
                (("m", ("maps", "i", TWO, POINTED)), ("c", ("classes", POINTED)))):
            with self.subTest(context=context):
                compare_context(self, context)


class DeepTypesTest(unittest.TestCase):

    def compare(self, *samples):
        for context, kind in samples:
            with self.subTest(context=context, kind=kind):
                compare_type(self, context, kind, 12)

    def test_pairs_on_pairs(self):
        self.compare((EMPTY, ("pairs", "b", MARKED, ("maps", "r", of(2, head(MARKED, "b")), Z(1)))),
                     (EMPTY, ("pairs", "b", COUNTED, of(2, head(COUNTED, "b")))),
                     (EMPTY, ("pairs", "c", BOTH, ("maps", "r", of(2, ("first",) + TWO[1:] + (head(BOTH, "c"),)), TWO))),
                     (EMPTY, ("pairs", "k", Z(2), ("pairs", "q", of(2, N("k")), ("maps", "r", of(2, N("k")), Z(1))))),
                     (EMPTY, ("pairs", "b", POINTED, ("pairs", "c", POINTED, ("ways", POINTED, N("b"), N("c"))))),
                     (EMPTY, ("pairs", "b", POINTED, ("either", POINTED, ("ways", POINTED, N("b"), N("b"))))))

    def test_maps_on_pairs(self):
        self.compare((EMPTY, ("maps", "b", POINTED, ("either", of(2, head(POINTED, "b")), S(1)))),
                     (EMPTY, ("maps", "b", BOTH, MARKED)), (EMPTY, ("maps", "b", BOTH, POINTED)),
                     (EMPTY, ("maps", "b", BOTH, ("either", POINTED, TWO))),
                     (EMPTY, ("maps", "b", POINTED, ("ways", POINTED, N("b"), N("b")))),
                     (EMPTY, ("maps", "d", BOTH, ("pairs", "c", POINTED, ("ways", POINTED, N("c"), (
                         "pair", "k", Z(2), of(2, N("k")), ("first",) + TWO[1:] + (head(BOTH, "d"),),
                         ("second",) + BOTH[1:] + (N("d"),)))))))

    def test_maps_on_one_object_with_arrows(self):
        self.compare((EMPTY, ("maps", "b", TWO, Z(2))), (EMPTY, ("maps", "b", TWO, COUNTED)),
                     (EMPTY, ("maps", "b", TWO, ("maps", "q", of(2, head(TWO, "b")), Z(2)))),
                     (EMPTY, ("maps", "b", TWO, ("maps", "q", of(2, head(TWO, "b")), POINTED))),
                     (EMPTY, ("maps", "b", THREE, Z(2))),
                     (EMPTY, ("maps", "b", THREE, of(3, head(THREE, "b")))))

    def test_homomorphisms(self):
        # The maps from the size 3 are the homomorphisms of its group: 1 to none, 1 to one, 2 to two, 10 to three points.
        found = objects(EMPTY, ("maps", "b", THREE, Z(3)), ())
        self.assertEqual([sum(thing[0] == (n,) for thing in found) for n in range(4)], [1, 1, 2, 10])
        thing = found[-1]
        self.assertEqual(len(thing[1]), 6)
        self.assertEqual(identity(EMPTY, ("maps", "b", THREE, Z(3)), (), thing), ((0, 1, 2),))

    def test_in_contexts(self):
        pairs = ("pairs", "i", POINTED, ("ways", POINTED, N("i"), N("a")))
        self.compare((AB, ("ways", POINTED, N("a"), N("b"))), (AB, ("either", pairs, ("ways", POINTED, N("b"), N("a")))),
                     (AB, ("maps", "q", of(2, head(POINTED, "a")), POINTED)),
                     (AB, ("maps", "q", ("ways", POINTED, N("a"), N("b")), of(2, head(POINTED, "b")))),
                     (AB, ("classes", pairs)), (AB, ("maps", "i", pairs, of(2, head(POINTED, "b")))),
                     (AB, ("at", "c", POINTED, N("b"), ("maps", "q", of(2, head(POINTED, "c")), of(2, head(POINTED, "a"))))),
                     (SIZE, ("pairs", "q", of(3, N("n")), ("pairs", "r", of(3, N("n")), ("ways", of(3, N("n")), N("q"), N("r"))))))

    def test_maps_in_contexts(self):
        one = (("n", Z(2)),)
        self.compare((one, ("maps", "b", TWO, ("maps", "q", of(2, N("n")), Z(1)))),
                     (one, ("maps", "b", ("pairs", "i", Z(2), ("ways", Z(2), N("i"), N("n"))), Z(2))),
                     (one, ("maps", "b", ("pairs", "p", of(2, N("n")), Z(1)), POINTED)),
                     (one, ("maps", "q", of(2, N("n")), ("pairs", "i", Z(2), ("ways", Z(2), N("i"), N("n"))))),
                     (one, ("pairs", "m", ("maps", "q", of(2, N("n")), Z(1)), ("maps", "q", of(2, N("n")), of(1, (
                         "app", "r", of(2, N("n")), Z(1), N("m"), N("q")))))))


class DeepTermsTest(unittest.TestCase):

    def show(self, context, kind, term):
        """Compare the type of the ways that lead to a term; they go where the term goes."""
        shown = ("pairs", "s", kind, ("ways", kind, N("s"), term))
        with self.subTest(context=context, term=term):
            compare_type(self, context, shown, 8)

    def test_ways(self):
        there = ("ways", POINTED, N("a"), N("b"))
        back = ("back", POINTED, N("a"), N("b"), N("w"))
        self.show(ABW, ("ways", POINTED, N("b"), N("a")), back)
        self.show(ABW, ("ways", POINTED, N("b"), N("b")), ("join", POINTED, N("b"), N("a"), N("b"), back, N("w")))
        self.show(ABW, there, ("join", POINTED, N("a"), N("a"), N("b"), ("stay", POINTED, N("a")), N("w")))
        context = (("a", MARKED), ("b", MARKED), ("w", ("ways", MARKED, N("a"), N("b"))))
        one = ("ways", MARKED, N("b"), N("b"))
        back = ("back", MARKED, N("a"), N("b"), N("w"))
        self.show(context, one, ("join", MARKED, N("b"), N("a"), N("b"), back, N("w")))

    def test_led_and_carry(self):
        part = of(2, head(POINTED, "x"))
        second = ("second",) + POINTED[1:] + (N("x"),)
        body = ("pair", "k", Z(2), of(2, N("k")), head(POINTED, "x"), second)
        kind = ("ways", POINTED, ("given", "x", POINTED, N("a"), body), ("given", "x", POINTED, N("b"), body))
        self.show(ABW, kind, ("led", "x", POINTED, POINTED, body, N("a"), N("b"), N("w")))
        carried = ("carry", "x", POINTED, part, N("a"), N("b"), N("w"), ("given", "x", POINTED, N("a"), second))
        self.show(ABW, of(2, head(POINTED, "b")), carried)
        maps = ("maps", "q", of(2, head(POINTED, "x")), Z(1))
        context = ABW + (("f", ("at", "x", POINTED, N("a"), maps)),)
        self.show(context, ("at", "x", POINTED, N("b"), maps), ("carry", "x", POINTED, maps, N("a"), N("b"), N("w"), N("f")))

    def test_carried_pairs(self):
        family = ("pairs", "c", POINTED, ("ways", POINTED, N("c"), N("x")))
        at_a, at_b = ("at", "x", POINTED, N("a"), family), ("at", "x", POINTED, N("b"), family)
        context = ABW + (("t", at_a),)
        self.show(context, at_b, ("carry", "x", POINTED, family, N("a"), N("b"), N("w"), N("t")))

    def test_maps_on_pairs(self):
        maps = ("maps", "x", BOTH, POINTED)
        context = (("f", maps), ("p", BOTH))
        self.show(context, POINTED, ("app", "x", BOTH, POINTED, N("f"), N("p")))
        context = (("f", maps), ("x", BOTH))
        self.show(context, POINTED, ("open", "x", BOTH, POINTED, N("f")))
        hanging = of(2, ("first",) + TWO[1:] + (head(BOTH, "x"),))
        second = ("second",) + BOTH[1:] + (N("x"),)
        self.show((("y", BOTH),), ("maps", "x", BOTH, hanging), ("fun", "x", BOTH, hanging, second))
        self.show((("x", BOTH),), hanging, ("open", "x", BOTH, hanging, ("fun", "x", BOTH, hanging, second)))

    def test_fun_of_a_pair(self):
        context = (("n", Z(2)),)
        body = ("pair", "k", Z(2), Z(1), N("n"), ("code", 1, ("ways", of(2, N("n")), N("q"), N("q"))))
        pairs = ("pairs", "k", Z(2), Z(1))
        self.show(context, ("maps", "q", of(2, N("n")), pairs), ("fun", "q", of(2, N("n")), pairs, body))

    def test_sides(self):
        E = ("either", POINTED, POINTED)
        second = ("second",) + POINTED[1:]
        body = ("pair", "k", Z(2), of(2, N("k")), head(POINTED, "x"), second + (N("x"),))
        for side in (body, N("x")):
            term = ("split", "z", POINTED, POINTED, POINTED, "x", side, "x", N("x"), N("e"))
            self.show((("e", E),), POINTED, term)
        self.show(AB[:1], E, ("left", POINTED, POINTED, N("a")))
        self.show(AB[:1], E, ("right", POINTED, POINTED, N("a")))

    def test_others(self):
        way = ("ways", POINTED, N("a"), N("b"))
        self.show(ABW, way, ("item", 1, way, ("index", 1, way, N("w"))))
        self.show(ABW, ("classes", POINTED), ("class", POINTED, N("a")))
        self.show(AB[:1], ("ways", POINTED, N("a"), N("a")), ("only", ("ways", POINTED, N("a"), N("a"))))
        self.show(AB, S(2), ("eachclass", "x", POINTED, S(2), ("any", ("ways", POINTED, N("x"), N("b"))),
                             ("class", POINTED, N("a"))))
        self.show(AB, POINTED, ("given", "x", POINTED, N("b"), N("x")))
        self.show(AB, POINTED, ("case", 1, "r", POINTED, P(1, 0), (N("a"),)))


class CompositesTest(unittest.TestCase):

    def test_composites_that_differ_away_from_the_loops(self):
        # On the two points of the size 2 there is one arrow between them; it exchanges what is over them, or does not.
        points = of(2, ("first",) + TWO[1:] + (head(BOTH, "c"),))
        turned = ("pairs", "c", BOTH, ("maps", "q", points, TWO))
        stands = ("pairs", "c", BOTH, ("maps", "q", S(2), TWO))
        found = objects(EMPTY, turned, ())
        self.assertEqual(len(found), 2)
        self.assertEqual(found, objects(EMPTY, stands, ()))
        for a in found:
            for b in found:
                self.assertEqual(arrows(EMPTY, turned, (), a, b), arrows(EMPTY, stands, (), a, b))
        a, b = found
        first = arrows(EMPTY, turned, (), a, a)[1]
        second = arrows(EMPTY, turned, (), a, b)[0]
        one = compose(EMPTY, turned, (), (a, a, b), first, second)
        two = compose(EMPTY, stands, (), (a, a, b), first, second)
        self.assertNotEqual(one, two)
        self.assertNotEqual(inverse(EMPTY, turned, (), a, b, one), inverse(EMPTY, stands, (), a, b, one))
        for pair in ((turned, stands), (stands, turned)):
            self.assertFalse(equal_types(EMPTY, *pair))
            self.assertFalse(plain.equal(EMPTY, *pair))

    def test_flat_maps(self):
        self.assertFalse(is_flat(EMPTY, ("maps", "b", TWO, TWO)))
        self.assertTrue(is_flat(EMPTY, ("maps", "b", S(2), ("pairs", "k", Z(2), ("ways", Z(2), N("k"), Q(2, 1))))))
        self.assertFalse(is_flat(EMPTY, ("maps", "b", S(2), ("pairs", "k", Z(2), ("ways", Z(2), N("k"), Q(2, 2))))))


if __name__ == "__main__":
    unittest.main()
