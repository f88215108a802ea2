"""Types that hold terms: each form of point 13 at a place and along a step, and points 14 and 15.

A term of sizes is seen through its points ("of"), a term of another type through its ways to itself or to another
term, and through what "at" makes of it.
"""

import unittest

from compare import compare_type
from isthmus.types import act, check_type, equal_types, objects
from short import EMPTY, FAMILY, N, P, POINT, Q, S, SIZE, TWO, WAY, Z, of

SIZE2 = (("n", Z(2)),)
POINTED = ("pairs", "k", Z(2), of(2, N("k")))
SWAP = ((1, 0),)
TURN = ((1, 2, 0),)


def exchanged(x="k", function=None):
    """The exchange of two points, or that of another map between them."""
    flip = ("fun", x, S(2), S(2), ("case", 2, "r", S(2), N(x), (P(2, 1), P(2, 0))))
    return ("exchange", 2, x, Q(2, 2), Q(2, 2), function or flip)


class TermTest(unittest.TestCase):

    def assert_size(self, context, place, term, size, m=2):
        """The term of sizes is this size at the place."""
        self.assertEqual(objects(context, of(m, term), place), list(range(size)))

    def assert_turn(self, context, place, step, term, turn, m=2, end=None):
        """The term of sizes goes along this permutation."""
        end = place if end is None else end
        self.assertEqual(tuple(act(context, of(m, term), place, end, step, k) for k in range(len(turn))), turn)

    def assert_same(self, context, place, kind, first, second, same=True):
        """Two terms of a discrete type are the same object at the place, or not."""
        self.assertEqual(objects(context, ("ways", kind, first, second), place), [()] if same else [])


class PlainTermsTest(TermTest):

    def test_name(self):
        self.assert_size(TWO, (1, 2), N("n"), 1)
        self.assert_size(TWO, (1, 2), N("m"), 2)
        self.assert_turn(TWO, (2, 2), ((1, 0), (0, 1)), N("n"), (1, 0))
        self.assert_turn(TWO, (2, 2), ((1, 0), (0, 1)), N("m"), (0, 1))

    def test_point_and_size(self):
        self.assert_same(EMPTY, (), S(3), P(3, 2), P(3, 2))
        self.assert_same(EMPTY, (), S(3), P(3, 2), P(3, 1), False)
        self.assert_size(EMPTY, (), Q(2, 1), 1)
        self.assert_turn(SIZE2, (2,), SWAP, Q(2, 2), (0, 1))

    def test_case(self):
        context = (("n", Z(2)), ("a", S(3)))
        term = ("case", 3, "x", Z(2), N("a"), (Q(2, 2), N("n"), Q(2, 0)))
        for a, size in ((0, 2), (1, 1), (2, 0)):
            self.assert_size(context, (1, a), term, size)
        self.assert_turn(context, (2, 1), ((1, 0), ()), term, (1, 0))
        self.assert_turn(context, (2, 0), ((1, 0), ()), term, (0, 1))
        hanging = ("case", 2, "x", ("ways", S(2), N("x"), N("x")), N("b"), (("stay", S(2), P(2, 0)), ("stay", S(2), P(2, 1))))
        context = (("b", S(2)),)
        self.assert_same(context, (1,), ("ways", S(2), N("b"), N("b")), hanging, ("stay", S(2), N("b")))

    def test_code(self):
        self.assert_size(SIZE2, (2,), ("code", 4, ("pairs", "k", of(2, N("n")), of(2, N("n")))), 4, 4)
        # The pairs are (0, 0), (0, 1), (1, 0), (1, 1); where both parts are exchanged their order is turned round.
        self.assert_turn(SIZE2, (2,), SWAP, ("code", 4, ("pairs", "k", of(2, N("n")), of(2, N("n")))), (3, 2, 1, 0), 4)
        self.assert_turn(SIZE2, (2,), SWAP, ("code", 4, ("pairs", "k", of(2, N("n")), S(2))), (2, 3, 0, 1), 4)
        self.assert_turn(SIZE2, (2,), SWAP, ("code", 4, S(3)), (0, 1, 2), 4)

    def test_index_and_item(self):
        kind = ("ways", Z(2), N("n"), N("n"))
        context = (("n", Z(2)), ("w", kind))
        position = ("index", 2, kind, N("w"))
        place = (2, (1, 0))
        self.assert_same(context, place, of(2, ("code", 2, kind)), position, position)
        self.assertEqual(objects(context, ("pairs", "q", of(2, ("code", 2, kind)),
                                           ("ways", of(2, ("code", 2, kind)), N("q"), position)), place), [(1, ())])
        self.assert_same(context, place, kind, ("item", 2, kind, position), N("w"))
        self.assert_same(SIZE2, (2,), S(2), ("item", 3, S(2), ("index", 3, S(2), P(2, 1))), P(2, 1))
        self.assert_same(SIZE2, (2,), S(2), ("item", 3, S(2), ("index", 3, S(2), P(2, 1))), P(2, 0), False)
        # The points of the code of a set are its points.
        self.assert_same(EMPTY, (), S(3), ("item", 4, S(3), P(3, 2)), P(3, 2))

    def test_item_along_a_step(self):
        context = POINT[:1] + (("p", of(3, ("code", 3, of(3, N("n"))))),)
        term = ("item", 3, of(3, N("n")), N("p"))
        kind = ("pairs", "q", of(3, N("n")), ("ways", of(3, N("n")), N("q"), term))
        self.assertEqual(objects(context, kind, (3, 2)), [(2, ())])
        self.assertEqual(act(context, kind, (3, 2), (3, 0), (TURN[0], ()), (2, ())), (0, ()))


class PairTermsTest(TermTest):

    def test_pair_first_second(self):
        pair = ("pair", "k", Z(2), of(2, N("k")), N("n"), N("p"))
        context = (("n", Z(2)), ("p", of(2, N("n"))))
        self.assert_size(context, (2, 1), ("first", "k", Z(2), of(2, N("k")), pair), 2)
        self.assert_turn(context, (2, 1), SWAP + ((),), ("first", "k", Z(2), of(2, N("k")), pair), (1, 0), end=(2, 0))
        self.assert_same(context, (2, 1), of(2, N("n")), ("second", "k", Z(2), of(2, N("k")), pair), N("p"))
        kind = ("pairs", "q", of(2, N("n")), ("ways", of(2, N("n")), ("second", "k", Z(2), of(2, N("k")), pair), N("q")))
        self.assertEqual(objects(context, kind, (2, 1)), [(1, ())])
        self.assertEqual(act(context, kind, (2, 1), (2, 0), SWAP + ((),), (1, ())), (0, ()))

    def test_second_part_with_arrows(self):
        context = (("p", ("pairs", "k", S(2), Z(2))),)
        term = ("second", "k", S(2), Z(2), N("p"))
        self.assert_turn(context, ((1, 2),), (((), (1, 0)),), term, (1, 0))

    def test_pair_of_ways(self):
        pairs = ("pairs", "k", Z(2), Z(2))
        pair = ("pair", "k", Z(2), Z(2), N("n"), N("m"))
        kind = ("ways", pairs, pair, pair)
        self.assertEqual(objects(TWO, kind, (2, 1)), [((0, 1), (0,)), ((1, 0), (0,))])
        self.assertEqual(act(TWO, ("ways", pairs, pair, ("pair", "k", Z(2), Z(2), Q(2, 2), Q(2, 2))), (2, 2), (2, 2),
                             ((1, 0), (0, 1)), ((0, 1), (1, 0))), ((1, 0), (1, 0)))


class MapTermsTest(TermTest):

    def test_fun_and_app(self):
        double = ("fun", "k", Z(2), Z(2), ("code", 2, of(2, N("k"))))
        self.assert_size(SIZE2, (1,), ("app", "k", Z(2), Z(2), double, N("n")), 1)
        self.assert_turn(SIZE2, (2,), SWAP, ("app", "k", Z(2), Z(2), double, N("n")), (1, 0))
        self.assert_turn(SIZE2, (2,), SWAP, ("app", "k", Z(2), Z(2), double, Q(2, 2)), (0, 1))

    def test_fun_as_an_object(self):
        maps = ("maps", "k", Z(2), Z(2))
        points = ("fun", "k", Z(2), Z(2), ("code", 2, of(2, N("k"))))
        still = ("fun", "k", Z(2), Z(2), ("code", 2, ("either", ("ways", S(2), ("any", of(2, N("k"))), P(2, 1)),
                                                     ("ways", S(2), ("any", ("ways", Z(2), N("k"), Q(2, 2))), P(2, 1)))))
        # Both are k at each k; only the first one goes along arrows.
        self.assertEqual(objects(EMPTY, ("ways", maps, points, points), ()), [((), (0,), (0, 1)), ((), (0,), (1, 0))])
        self.assertEqual(objects(EMPTY, ("ways", maps, points, still), ()), [])

    def test_app_of_a_name(self):
        term = ("app", "r", of(2, N("n")), Z(2), N("f"), N("p"))
        context = FAMILY + (("p", of(2, N("n"))),)
        f = ((2, 1), ((0, 1), (0,)))
        moved = ((1, 2), ((0,), (0, 1)))
        self.assert_size(context, (2, f, 0), term, 2)
        self.assert_size(context, (2, f, 1), term, 1)
        self.assert_turn(context, (2, f, 0), ((1, 0), ((0,), (1, 0)), ()), term, (1, 0), end=(2, moved, 1))
        self.assert_turn(context, (2, f, 0), ((1, 0), ((0,), (0, 1)), ()), term, (0, 1), end=(2, moved, 1))

    def test_app_along_both(self):
        # The map goes along its arrow, and what it is applied to goes along another one.
        context = (("f", ("maps", "k", Z(2), Z(2))), ("n", Z(2)))
        f = ((0, 0, 2), ((), (), (0, 1), (1, 0)))
        term = ("app", "k", Z(2), Z(2), N("f"), N("n"))
        for u in ((0, 1), (1, 0)):
            for v in ((0, 1), (1, 0)):
                turn = (0, 1) if u == v else (1, 0)
                self.assert_turn(context, (f, 2), (((), (), u), v), term, turn)

    def test_open(self):
        context = TWO + (("a", S(1)),)
        function = ("fun", "k", Z(2), Z(2), ("code", 2, ("either", S(0), of(2, N("k")))))
        term = ("open", "m", Z(2), Z(2), function)
        self.assert_size(context, (2, 1, 0), term, 1)
        self.assert_turn(context, (1, 2, 0), ((0,), (1, 0), ()), term, (1, 0))
        self.assert_turn(context, (2, 2, 0), ((1, 0), (0, 1), ()), term, (0, 1))

    def test_open_a_map_that_hangs_on_names_ahead(self):
        function = ("fun", "k", Z(2), Z(2), N("n"))
        term = ("open", "m", Z(2), Z(2), function)
        self.assert_size(TWO, (2, 1), term, 2)
        self.assert_turn(TWO, (2, 2), ((1, 0), (0, 1)), term, (1, 0))
        self.assert_turn(TWO, (2, 2), ((0, 1), (1, 0)), term, (0, 1))

    def test_open_with_a_type_that_hangs_on_the_name(self):
        kind = ("maps", "q", of(2, N("n")), of(2, N("n")))
        same = ("fun", "q", of(2, N("n")), of(2, N("n")), N("q"))
        function = ("fun", "n", Z(2), kind, same)
        term = ("open", "n", Z(2), kind, function)
        self.assertEqual(objects(TWO, ("ways", kind, term, same), (2, 1)), [((), ())])


class WayTermsTest(TermTest):

    def test_stay(self):
        kind = ("ways", Z(2), N("n"), N("n"))
        context = (("n", Z(2)), ("w", kind))
        self.assert_same(context, (2, (0, 1)), kind, ("stay", Z(2), N("n")), N("w"))
        self.assert_same(context, (2, (1, 0)), kind, ("stay", Z(2), N("n")), N("w"), False)

    def test_back_and_join(self):
        kind = ("ways", Z(3), Q(3, 3), Q(3, 3))
        context = (("v", kind), ("w", kind), ("r", kind))
        three = Q(3, 3)
        joined = ("join", Z(3), three, three, three, N("v"), N("w"))
        first, second = (1, 2, 0), (1, 0, 2)
        self.assert_same(context, (first, second, (0, 2, 1)), kind, joined, N("r"))
        self.assert_same(context, (second, first, (0, 2, 1)), kind, joined, N("r"), False)
        back = ("back", Z(3), three, three, N("v"))
        self.assert_same(context, (first, second, (2, 0, 1)), kind, back, N("r"))
        self.assert_same(context, (first, second, first), kind, back, N("r"), False)

    def test_way_along_a_step(self):
        kind = ("ways", Z(2), N("m"), N("n"))
        back = ("back", Z(2), N("n"), N("m"), N("w"))
        shown = ("pairs", "v", kind, ("ways", kind, N("v"), back))
        self.assertEqual(objects(WAY, shown, (2, 2, (1, 0))), [((1, 0), ())])
        self.assertEqual(act(WAY, shown, (2, 2, (1, 0)), (2, 2, (0, 1)), ((1, 0), (0, 1), ()), ((1, 0), ())), ((0, 1), ()))

    def test_led(self):
        # The pairs of points of k along the exchange of two points.
        C = ("ways", Z(4), Q(4, 4), Q(4, 4))
        body = ("code", 4, ("pairs", "q", of(2, N("x")), of(2, N("x"))))
        led = ("led", "x", Z(2), Z(4), body, Q(2, 2), Q(2, 2), exchanged())
        context = (("v", C),)
        ends = [("given", "x", Z(2), Q(2, 2), body)] * 2
        self.assertEqual(objects(context, ("ways", ("ways", Z(4), *ends), led, N("v")), ((3, 2, 1, 0),)), [()])
        self.assertEqual(objects(context, ("ways", ("ways", Z(4), *ends), led, N("v")), ((0, 1, 2, 3),)), [])

    def test_carry(self):
        two = Q(2, 2)
        carried = ("carry", "y", Z(2), of(2, N("y")), two, two, exchanged(), P(2, 0))
        self.assert_same(EMPTY, (), S(2), carried, P(2, 1))
        back = ("carry", "y", Z(2), of(2, N("y")), two, two, ("back", Z(2), two, two, exchanged()), carried)
        self.assert_same(EMPTY, (), S(2), back, P(2, 0))

    def test_carry_along_a_step(self):
        context = WAY + (("p", of(2, N("n"))),)
        carried = ("carry", "y", Z(2), of(2, N("y")), N("n"), N("m"), N("w"), N("p"))
        kind = ("pairs", "q", of(2, N("m")), ("ways", of(2, N("m")), N("q"), carried))
        self.assertEqual(objects(context, kind, (2, 2, (1, 0), 0)), [(1, ())])
        self.assertEqual(act(context, kind, (2, 2, (1, 0), 0), (2, 2, (0, 1), 0), ((0, 1), (1, 0), (), ()), (1, ())), (0, ()))

    def test_carried_arrows(self):
        # Sizes by point: what is carried goes along an arrow itself.
        maps = ("maps", "q", of(2, N("y")), Z(2))
        context = (("m", Z(2)),)
        body = ("fun", "q", S(2), Z(2), ("case", 2, "r", Z(2), N("q"), (N("m"), Q(2, 2))))
        carried = ("carry", "y", Z(2), maps, Q(2, 2), Q(2, 2), exchanged(), body)
        for k, turn in ((0, (0, 1)), (1, (1, 0))):
            self.assert_turn(context, (2,), SWAP, ("app", "q", S(2), Z(2), carried, P(2, k)), turn)
        self.assert_size(context, (1,), ("app", "q", S(2), Z(2), carried, P(2, 0)), 2)
        self.assert_size(context, (1,), ("app", "q", S(2), Z(2), carried, P(2, 1)), 1)

    def test_pairway(self):
        one = ("pair", "k", Z(2), of(2, N("k")), Q(2, 2), P(2, 0))
        two = ("pair", "k", Z(2), of(2, N("k")), Q(2, 2), P(2, 1))
        way = ("pairway", "k", Z(2), of(2, N("k")), one, two, exchanged(), ("stay", S(2), P(2, 1)))
        kind = ("ways", POINTED, one, two)
        self.assertEqual(objects(EMPTY, kind, ()), [((1, 0), ())])
        self.assertEqual(objects(EMPTY, ("ways", kind, way, way), ()), [()])
        self.assertEqual(objects((("v", kind),), ("ways", kind, way, N("v")), (((1, 0), ()),)), [()])

    def test_mapway(self):
        f = ("fun", "k", S(2), Z(2), Q(2, 2))
        ways = ("ways", Z(2), Q(2, 2), Q(2, 2))
        body = ("case", 2, "r", ways, N("k"), (exchanged("p"), ("stay", Z(2), Q(2, 2))))
        way = ("mapway", "k", S(2), Z(2), f, f, body)
        kind = ("ways", ("maps", "k", S(2), Z(2)), f, f)
        context = (("w", kind),)
        self.assertEqual(objects(context, ("ways", kind, way, N("w")), (((1, 0), (0, 1)),)), [()])
        self.assertEqual(objects(context, ("ways", kind, way, N("w")), (((0, 1), (1, 0)),)), [])

    def test_exchange(self):
        kind = ("ways", Z(2), Q(2, 2), Q(2, 2))
        context = (("w", kind),)
        self.assertEqual(objects(context, ("ways", kind, exchanged(), N("w")), ((1, 0),)), [()])
        self.assertEqual(objects(context, ("ways", kind, exchanged(), N("w")), ((0, 1),)), [])
        still = exchanged("k", ("fun", "k", S(2), S(2), N("k")))
        self.assertEqual(objects(context, ("ways", kind, still, N("w")), ((0, 1),)), [()])


class OtherTermsTest(TermTest):

    def test_any(self):
        term = ("any", ("ways", Z(3), N("n"), Q(3, 2)))
        for n in range(4):
            self.assert_same(SIZE, (n,), S(2), term, P(2, 1), n == 2)
            self.assert_same(SIZE, (n,), S(2), ("any", of(3, N("n"))), P(2, 0), n == 0)

    def test_only(self):
        context = (("n", Z(2)), ("v", ("ways", Z(2), N("n"), Q(2, 1))), ("p", of(2, N("n"))))
        self.assertEqual(objects(context, ("ways", of(2, N("n")), ("only", of(2, N("n"))), N("p")), (1, (0,), 0)), [()])
        self.assert_size(EMPTY, (), ("only", Z(0)), 0, 0)
        self.assertEqual(objects(EMPTY, ("at", "k", Z(0), ("only", Z(0)), of(0, N("k"))), ()), [])

    def test_class(self):
        one = ("pair", "k", Z(2), of(2, N("k")), Q(2, 2), P(2, 1))
        kind = ("classes", POINTED)
        context = (("c", kind),)
        self.assert_same(context, ((2, 0),), kind, ("class", POINTED, one), N("c"))
        self.assert_same(context, ((1, 0),), kind, ("class", POINTED, one), N("c"), False)

    def test_eachclass(self):
        body = ("any", ("ways", Z(2), N("x"), Q(2, 2)))
        term = ("eachclass", "x", Z(2), S(2), body, ("class", Z(2), N("n")))
        for n in range(3):
            self.assert_same(SIZE2, (n,), S(2), term, body[:1] + (("ways", Z(2), N("n"), Q(2, 2)),))
        self.assert_same(SIZE2, (2,), S(2), term, P(2, 1))
        self.assert_same(SIZE2, (1,), S(2), term, P(2, 0))

    def test_left_right_split(self):
        E = ("either", Z(2), S(2))
        context = (("e", E), ("n", Z(2)))
        term = ("split", "z", Z(2), S(2), Z(2), "x", N("x"), "y", ("case", 2, "r", Z(2), N("y"), (N("n"), Q(2, 1))), N("e"))
        self.assert_size(context, ((0, 1), 0), term, 1)
        self.assert_size(context, ((1, 0), 0), term, 0)
        self.assert_size(context, ((1, 1), 0), term, 1)
        self.assert_turn(context, ((0, 2), 0), ((1, 0), ()), term, (1, 0))
        self.assert_turn(context, ((1, 0), 2), ((), (1, 0)), term, (1, 0))
        left = term[:-1] + (("left", Z(2), S(2), N("n")),)
        right = term[:-1] + (("right", Z(2), S(2), P(2, 0)),)
        self.assert_turn(context, ((0, 0), 2), ((), (1, 0)), left, (1, 0))
        self.assert_turn(context, ((0, 0), 2), ((), (1, 0)), right, (1, 0))
        self.assert_size(context, ((0, 0), 1), right, 1)

    def test_split_into_a_type_that_hangs_on_the_side(self):
        side = ("split", "r", S(1), S(1), Z(2), "x", Q(2, 1), "y", Q(2, 2), N("z"))
        E = ("either", S(1), S(1))
        term = ("split", "z", S(1), S(1), of(2, side), "p", P(1, 0), "q", P(2, 1), N("e"))
        kind = ("at", "z", E, N("e"), of(2, side))
        self.assertEqual(objects((("e", E),), ("pairs", "k", kind, ("ways", kind, N("k"), term)), ((1, 0),)), [(1, ())])

    def test_given(self):
        term = ("given", "x", Z(2), N("n"), ("code", 2, of(2, N("x"))))
        self.assert_size(SIZE2, (1,), term, 1)
        self.assert_turn(SIZE2, (2,), SWAP, term, (1, 0))
        self.assert_turn(SIZE2, (2,), SWAP, ("given", "x", Z(2), Q(2, 2), ("code", 2, of(2, N("x")))), (0, 1))
        point = ("given", "x", Z(2), Q(2, 2), ("given", "y", of(2, N("x")), P(2, 1), N("y")))
        self.assertRaises(ValueError, check_type, EMPTY, ("ways", S(2), point, P(2, 1)))
        point = ("given", "x", S(2), P(2, 1), ("given", "y", S(2), N("x"), N("y")))
        self.assert_same(EMPTY, (), S(2), point, P(2, 1))


class EqualThingsTest(TermTest):
    """Points 14 and 15."""

    def test_any_way(self):
        for place, way in (((1, 1), P(2, 1)), ((1, 2), P(2, 0)), ((2, 2), P(2, 1))):
            self.assert_same(TWO, place, S(2), ("any", ("ways", Z(2), N("n"), N("m"))), way)

    def test_points_are_alike_to_sets(self):
        # A term of a set with x the last name is the same for all points of a size, else it is no term.
        context = (("n", Z(2)), ("x", of(2, N("n"))))
        kind = ("ways", S(2), ("any", ("ways", of(2, N("n")), N("x"), N("x"))), P(2, 1))
        self.assertTrue(equal_types(context, kind, ("ways", S(1), P(1, 0), P(1, 0))))

    def test_carried_along_an_exchange_is_the_map(self):
        function = ("fun", "k", of(2, N("n")), of(2, N("m")),
                    ("carry", "y", Z(2), of(2, N("y")), N("n"), N("m"), N("w"), N("k")))
        context = WAY + (("a", of(2, N("n"))),)
        exchange = ("exchange", 2, "k", N("n"), N("m"), function)
        carried = ("carry", "y", Z(2), of(2, N("y")), N("n"), N("m"), exchange, N("a"))
        applied = ("app", "k", of(2, N("n")), of(2, N("m")), function, N("a"))
        always = ("ways", S(1), P(1, 0), P(1, 0))
        self.assertTrue(equal_types(context, ("ways", of(2, N("m")), carried, applied), always))
        # Each arrow between sizes is the exchange of the map that it makes.
        self.assertTrue(equal_types(context, ("ways", ("ways", Z(2), N("n"), N("m")), exchange, N("w")), always))

    def test_index_and_item_are_inverse(self):
        kind = ("ways", Z(2), N("n"), N("m"))
        there = ("index", 2, kind, N("w"))
        always = ("ways", S(1), P(1, 0), P(1, 0))
        self.assertTrue(equal_types(WAY, ("ways", kind, ("item", 2, kind, there), N("w")), always))
        context = TWO + (("p", of(2, ("code", 2, kind))),)
        back = ("index", 2, kind, ("item", 2, kind, N("p")))
        self.assertTrue(equal_types(context, ("ways", of(2, ("code", 2, kind)), back, N("p")), always))


class AgainstTheSlowReadingTest(unittest.TestCase):

    def compare(self, context, kind):
        with self.subTest(context=context, kind=kind):
            compare_type(self, context, kind)

    def test_carried_points(self):
        carried = ("carry", "y", Z(2), of(2, N("y")), N("n"), N("m"), N("w"), N("p"))
        there = of(2, N("m"))
        self.compare(WAY, ("pairs", "p", of(2, N("n")), ("pairs", "q", there, ("ways", there, N("q"), carried))))

    def test_applied_names(self):
        points = of(2, N("n"))
        maps = ("maps", "q", points, Z(2))
        applied = ("app", "r", points, Z(2), N("f"), N("p"))
        other = ("app", "r", points, Z(2), N("g"), N("p"))
        self.compare(FAMILY, ("maps", "p", points, ("maps", "k", of(2, applied), of(2, applied))))
        self.compare(FAMILY, ("pairs", "p", points, ("ways", Z(2), applied, applied)))
        self.compare(FAMILY, ("ways", maps, N("f"), ("fun", "q", points, Z(2), Q(2, 1))))
        self.compare(FAMILY, ("at", "g", maps, N("f"), ("pairs", "p", points, ("ways", Z(2), other, Q(2, 2)))))

    def test_codes_and_names_that_are_opened(self):
        opened = ("open", "m", Z(2), Z(2), ("fun", "k", Z(2), Z(2), N("n")))
        given = ("given", "r", Z(2), N("k"), ("code", 2, of(2, N("r"))))
        self.compare(TWO, of(4, ("code", 4, ("maps", "k", of(2, N("n")), of(2, N("m"))))))
        self.compare(TWO, ("classes", ("pairs", "k", Z(2), ("ways", Z(2), N("k"), opened))))
        self.compare(SIZE, ("maps", "k", Z(2), ("ways", Z(2), N("k"), given)))

    def test_pairs_and_sides(self):
        pair = ("pair", "k", Z(3), of(3, N("k")), N("n"), N("p"))
        self.compare(POINT, ("ways", ("pairs", "k", Z(3), of(3, N("k"))), pair, pair))
        split = ("split", "z", Z(2), Z(1), Z(2), "x", N("x"), "y", ("code", 2, of(1, N("y"))), N("e"))
        self.compare((("e", ("either", Z(2), Z(1))),), of(2, split))


if __name__ == "__main__":
    unittest.main()
