"""Which terms are equal (points 11, 13, 14, 15), and near misses, always both ways round."""

import unittest

import plain
from compare import plain_same
from isthmus.terms import equal_terms
from samples import BIT, CLASSED, EITHER, FOUND, MARKED, PAIR, PAIRED, POINT2, POINTED, SAMPLES, SIZE2, SWAP, TURN, WAYS
from short import EMPTY, FAMILY, N, NONE, P, POINT, Q, S, TWO, WAY, Z, of

POINTS = of(2, N("n"))


def case(n, term, branches, kind=S(2), x="i"):
    return ("case", n, x, kind, term, branches)


class EqualTest(unittest.TestCase):

    def assert_equal(self, context, first, second, same=True):
        for one, two in ((first, second), (second, first), (first, first), (second, second)):
            self.assertIs(equal_terms(context, one, two), same or one == two, (context, one, two))
        self.assertEqual(plain_same(context, first, second), same)

    def assert_other(self, context, first, second):
        self.assert_equal(context, first, second, False)

    def tearDown(self):
        for name in dir(plain):
            if hasattr(getattr(plain, name), "cache_clear"):
                getattr(plain, name).cache_clear()


class PlainEqualTest(EqualTest):

    def test_each_sample_with_itself(self):
        for context, term, _ in SAMPLES:
            self.assertIs(equal_terms(context, term, term), True)

    def test_names_and_numbers(self):
        self.assert_equal(EMPTY, P(3, 1), P(3, 1))
        self.assert_other(EMPTY, P(3, 1), P(3, 2))
        self.assert_other(EMPTY, P(3, 1), P(2, 1))
        self.assert_other(EMPTY, P(3, 1), Q(3, 1))
        self.assert_other(EMPTY, Q(3, 1), Q(2, 1))
        self.assert_other(EMPTY, Q(3, 1), Q(3, 2))
        self.assert_other(TWO, N("n"), N("m"))
        self.assert_other(SIZE2, N("n"), Q(2, 2))
        self.assert_equal((("a", S(1)), ("b", S(1))), N("a"), N("b"))
        self.assert_equal((("a", Z(0)), ("b", Z(0))), N("a"), N("b"))
        self.assert_other((("a", Z(1)), ("b", Z(1))), N("a"), N("b"))
        # The sizes up to 0 are a set of one point; those up to 1 have other identities than a set of two.
        self.assert_equal((("a", Z(0)), ("b", S(1))), N("a"), N("b"))
        self.assert_equal(EMPTY, Q(0, 0), P(1, 0))
        self.assert_other(EMPTY, Q(1, 0), P(2, 0))

    def test_same_objects_with_other_arrows(self):
        # Both are 2 at the one place; along the exchange the one is exchanged, the other one is not.
        two = ("pairs", "s", Z(2), ("ways", S(2), ("any", ("ways", Z(2), N("s"), Q(2, 2))), P(2, 1)))
        context = (("r", two),)
        self.assert_other(context, ("first",) + two[1:] + (N("r"),), Q(2, 2))
        self.assert_equal(context, ("first",) + two[1:] + (N("r"),), ("code", 2, of(2, ("first",) + two[1:] + (N("r"),))))
        self.assert_other(context, ("code", 2, S(2)), ("code", 2, of(2, ("first",) + two[1:] + (N("r"),))))

    def test_cases(self):
        self.assert_equal(BIT, case(2, P(2, 0), (P(2, 1), N("b"))), P(2, 1))
        self.assert_equal(BIT, case(2, P(2, 1), (P(2, 1), N("b"))), N("b"))
        self.assert_other(BIT, case(2, P(2, 0), (P(2, 1), N("b"))), N("b"))
        self.assert_equal(BIT, case(2, N("b"), (P(2, 0), P(2, 1))), N("b"))
        self.assert_other(BIT, case(2, N("b"), (P(2, 1), P(2, 0))), N("b"))
        self.assert_equal(BIT, case(2, case(2, N("b"), (P(2, 1), P(2, 0))), (P(2, 1), P(2, 0))), N("b"))
        self.assert_equal(SIZE2 + BIT, case(2, N("b"), (N("n"), N("n")), Z(2)), N("n"))
        self.assert_other(SIZE2 + BIT, case(2, N("b"), (N("n"), Q(2, 2)), Z(2)), N("n"))

    def test_other_bound_names(self):
        self.assert_equal(BIT, case(2, N("b"), (P(2, 1), P(2, 0)), x="j"), case(2, N("b"), (P(2, 1), P(2, 0)), x="k"))
        for x in ("q", "x", "abcdefgh"):
            self.assert_equal(SIZE2, ("fun", "i", POINTS, POINTS, N("i")), ("fun", x, POINTS, POINTS, N(x)))
        self.assert_equal(EMPTY, ("fun", "a", S(2), ("maps", "b", S(1), S(2)), ("fun", "b", S(1), S(2), N("a"))),
                          ("fun", "b", S(2), ("maps", "a", S(1), S(2)), ("fun", "a", S(1), S(2), N("b"))))
        inner = ("maps", "b", S(2), S(2))
        self.assert_other(EMPTY, ("fun", "a", S(2), inner, ("fun", "b", S(2), S(2), N("a"))),
                          ("fun", "a", S(2), inner, ("fun", "b", S(2), S(2), N("b"))))
        sides = ("split", "z", POINTS, Z(1), Z(2), "x", N("n"), "y", Q(2, 1), N("e"))
        self.assert_equal(EITHER, sides, ("split", "y", POINTS, Z(1), Z(2), "y", N("n"), "y", Q(2, 1), N("e")))

    def test_without_places(self):
        self.assert_equal(NONE, P(2, 1), Q(4, 4))
        self.assert_equal(NONE, N("v"), ("stay", Z(2), Q(2, 1)))
        self.assert_equal(NONE, case(0, N("v"), ()), P(2, 0))


class MadeEqualTest(EqualTest):

    def test_parts_of_pairs(self):
        first, second = ("first",) + POINTED[1:], ("second",) + POINTED[1:]
        self.assert_equal(POINT2, first + (PAIR,), N("n"))
        self.assert_equal(POINT2, second + (PAIR,), N("p"))
        self.assert_other(POINT2, first + (PAIR,), N("p"))
        self.assert_equal(PAIRED, ("pair",) + POINTED[1:] + (first + (N("r"),), second + (N("r"),)), N("r"))
        swapped = ("carry", "k", Z(2), of(2, N("k")), Q(2, 2), Q(2, 2), SWAP, P(2, 0))
        self.assert_equal(EMPTY, ("pair",) + POINTED[1:] + (Q(2, 2), swapped), ("pair",) + POINTED[1:] + (Q(2, 2), P(2, 1)))
        self.assert_other(EMPTY, ("pair",) + POINTED[1:] + (Q(2, 2), swapped), ("pair",) + POINTED[1:] + (Q(2, 2), P(2, 0)))

    def test_maps_made_and_used(self):
        points = POINT2
        same = ("fun", "q", POINTS, POINTS, N("q"))
        self.assert_equal(points, ("app", "q", POINTS, POINTS, same, N("p")), N("p"))
        # A map is the map that takes each point to what it makes of it.
        again = ("fun", "i", POINTS, Z(2), ("app", "q", POINTS, Z(2), N("f"), N("i")))
        self.assert_equal(FAMILY, again, N("f"))
        self.assert_other(FAMILY, ("fun", "i", POINTS, Z(2), Q(2, 2)), N("f"))
        maps = ("maps", "x", S(2), S(2))
        context = (("f", maps),)
        self.assert_equal(context, ("fun", "x", S(2), S(2), ("app", "y", S(2), S(2), N("f"), N("x"))), N("f"))
        use = ("app", "y", S(2), S(2), N("f"))
        self.assert_other(context, ("fun", "x", S(2), S(2), use + (use + (N("x"),),)), N("f"))
        # Each of the four maps done three times is the map itself.
        self.assert_equal(context, ("fun", "x", S(2), S(2), use + (use + (use + (N("x"),),),)), N("f"))

    def test_a_map_that_forgets_arrows(self):
        # Both take each size to itself; the one exchanges as its argument does, the other one never.
        code = ("index", 3, ("classes", Z(2)), ("class", Z(2), N("x")))
        rest = ("fun", "x", Z(2), Z(2), ("case", 3, "i", Z(2), code, (Q(2, 0), Q(2, 1), Q(2, 2))))
        same = ("fun", "x", Z(2), Z(2), N("x"))
        self.assert_other(EMPTY, rest, same)
        at_two = [("app", "x", Z(2), Z(2), f, Q(2, 2)) for f in (rest, same)]
        self.assert_equal(EMPTY, at_two[0], at_two[1])
        self.assert_other(SIZE2, *[("app", "x", Z(2), Z(2), f, N("n")) for f in (rest, same)])

    def test_opened(self):
        body = ("code", 2, of(2, N("n")))
        opened = ("open", "n", Z(2), Z(2), ("fun", "n", Z(2), Z(2), body))
        self.assert_equal(SIZE2, opened, N("n"))
        self.assert_equal(TWO, opened, N("n"))
        self.assert_other(TWO, opened, N("m"))
        self.assert_equal(TWO, ("open", "m", Z(2), Z(2), ("fun", "m", Z(2), Z(2), N("n"))), N("n"))
        self.assert_equal(TWO, ("open", "n", Z(2), Z(2), ("fun", "m", Z(2), Z(2), N("m"))), N("n"))

    def test_given(self):
        self.assert_equal(TWO, ("given", "x", Z(2), N("m"), N("x")), N("m"))
        self.assert_other(TWO, ("given", "x", Z(2), N("m"), N("x")), N("n"))
        self.assert_equal(TWO, ("given", "x", Z(2), N("m"), N("n")), N("n"))
        self.assert_equal(TWO, ("given", "x", Z(2), N("m"), ("stay", Z(2), N("x"))), ("stay", Z(2), N("m")))

    def test_codes_and_items(self):
        kind = ("pairs", "k", POINTS, S(2))
        pair = ("pair",) + kind[1:] + (N("p"), P(2, 1))
        self.assert_equal(POINT2, ("item", 4, kind, ("index", 4, kind, pair)), pair)
        self.assert_equal(EMPTY, ("index", 3, S(3), P(3, 1)), P(3, 1))
        self.assert_equal(EMPTY, ("index", 4, S(3), P(3, 1)), ("item", 3, S(3), P(3, 1)))
        self.assert_equal(SIZE2, ("code", 2, POINTS), N("n"))
        self.assert_other(SIZE2, ("code", 3, POINTS), N("n"))
        self.assert_equal(EMPTY, ("code", 3, S(2)), Q(3, 2))
        self.assert_other(SIZE2, ("code", 4, MARKED), ("code", 4, ("pairs", "q", POINTS, POINTS)))
        self.assert_equal(SIZE2, ("code", 4, MARKED), ("code", 4, ("maps", "i", POINTS, of(2, Q(2, 2)))))
        context = SIZE2 + (("i", of(4, ("code", 4, MARKED))),)
        self.assert_equal(context, ("index", 4, MARKED, ("item", 4, MARKED, N("i"))), N("i"))

    def test_any_only_and_classes(self):
        self.assert_equal(EMPTY, ("any", S(3)), P(2, 1))
        self.assert_equal(EMPTY, ("any", S(0)), P(2, 0))
        self.assert_other(SIZE2, ("any", POINTS), P(2, 1))
        self.assert_equal(SIZE2, ("any", Z(0)), P(2, 1))
        self.assert_equal(TWO, ("any", WAYS), ("any", ("ways", Z(2), N("m"), N("n"))))
        self.assert_equal(EMPTY, ("only", S(1)), P(1, 0))
        self.assert_equal(SIZE2, ("only", ("maps", "q", POINTS, S(1))), ("fun", "q", POINTS, S(1), P(1, 0)))
        pair = ("pair",) + POINTED[1:]
        self.assert_equal(EMPTY, ("class", POINTED, pair + (Q(2, 2), P(2, 1))), ("class", POINTED, pair + (Q(2, 2), P(2, 0))))
        self.assert_other(EMPTY, ("class", POINTED, pair + (Q(2, 2), P(2, 1))), ("class", POINTED, pair + (Q(2, 1), P(1, 0))))
        kind = CLASSED[1][1][1]
        pair = ("pair",) + kind[1:] + (("first",) + kind[1:] + (N("x"),), ("second",) + kind[1:] + (N("x"),))
        again = ("eachclass", "x", kind, CLASSED[1][1], ("class", kind, pair), N("c"))
        self.assert_equal(CLASSED, again, N("c"))

    def test_sides(self):
        either = ("either", POINTS, Z(1))
        left, right = ("left",) + either[1:], ("right",) + either[1:]
        again = ("split", "z", POINTS, Z(1), either, "x", left + (N("x"),), "y", right + (N("y"),), N("e"))
        self.assert_equal(EITHER, again, N("e"))
        rest = ("split", "z", POINTS, Z(1), either, "x", left + (N("x"),), "y", right + (Q(1, 1),), N("e"))
        self.assert_other(EITHER, rest, N("e"))
        self.assert_equal(POINT2, ("split", "z", POINTS, Z(1), POINTS, "x", N("x"), "y", N("p"), left + (N("p"),)), N("p"))


class WaysEqualTest(EqualTest):

    def test_stay_and_join(self):
        ends = (Z(2), N("n"), N("m"))
        back = ("back",) + ends + (N("w"),)
        self.assert_equal(WAY, ("join", Z(2), N("n"), N("n"), N("m"), ("stay", Z(2), N("n")), N("w")), N("w"))
        self.assert_equal(WAY, ("join", Z(2), N("n"), N("m"), N("m"), N("w"), ("stay", Z(2), N("m"))), N("w"))
        self.assert_equal(WAY, ("back", Z(2), N("m"), N("n"), back), N("w"))
        self.assert_equal(WAY, ("join", Z(2), N("n"), N("m"), N("n"), N("w"), back), ("stay", Z(2), N("n")))
        self.assert_equal(WAY, ("join", Z(2), N("m"), N("n"), N("m"), back, N("w")), ("stay", Z(2), N("m")))
        # Arrows between sizes up to 2 commute and are their own inverses, as data, and n is m wherever there is one.
        self.assert_equal(WAY, back, N("w"))
        self.assert_equal(WAY, ("join", Z(2), N("n"), N("m"), N("n"), N("w"), back), ("stay", Z(2), N("m")))
        ends = (Z(3), Q(3, 3), Q(3, 3))
        context = (("w", ("ways",) + ends),)
        self.assert_other(context, ("back",) + ends + (N("w"),), N("w"))
        self.assert_other(context, ("join",) + ends + (Q(3, 3), N("w"), N("w")), ("back",) + ends + (N("w"),))
        self.assert_equal(context, ("back",) + ends + (("back",) + ends + (N("w"),),), N("w"))

    def test_the_second_is_done_behind_the_first(self):
        three = (Z(3), Q(3, 3), Q(3, 3))
        flip = ("exchange", 3, "q", Q(3, 3), Q(3, 3), ("fun", "q", S(3), S(3), case(3, N("q"), (P(3, 1), P(3, 0), P(3, 2)), S(3))))
        twice = ("join",) + three + (Q(3, 3),)
        self.assert_equal(EMPTY, twice + (TURN, TURN), ("back",) + three + (TURN,))
        self.assert_other(EMPTY, twice + (TURN, flip), twice + (flip, TURN))
        self.assert_equal(EMPTY, twice + (TURN, flip), twice + (flip, twice + (TURN, TURN)))
        self.assert_equal(EMPTY, twice + (flip, flip), ("stay", Z(3), Q(3, 3)))

    def test_led(self):
        led = ("led", "x", Z(2), Z(2), N("x"), N("n"), N("m"))
        self.assert_equal(WAY, led + (N("w"),), N("w"))
        # What does not hang on x stays: its two ends are one.
        self.assert_equal(WAY, ("led", "x", Z(2), Z(2), N("n"), N("n"), N("m"), N("w")), ("stay", Z(2), N("n")))
        self.assert_equal(WAY, ("led", "x", Z(2), Z(2), ("code", 2, of(2, N("x"))), N("n"), N("m"), N("w")), N("w"))
        stay = ("stay", Z(2), N("n"))
        self.assert_equal(WAY, ("led", "x", Z(2), Z(2), N("x"), N("n"), N("n"), stay), stay)

    def test_carried(self):
        kind = of(2, N("k"))
        there = ("carry", "k", Z(2), kind, N("n"), N("m"), N("w"), N("p"))
        again = ("carry", "k", Z(2), kind, N("m"), N("n"), ("back", Z(2), N("n"), N("m"), N("w")), there)
        self.assert_equal(FOUND, again, N("p"))
        self.assert_other(FOUND, there, N("p"))
        self.assert_equal(FOUND, ("carry", "k", Z(2), kind, N("n"), N("n"), ("stay", Z(2), N("n")), N("p")), N("p"))
        # In a type that does not hang on k nothing is moved.
        self.assert_equal(FOUND, ("carry", "k", Z(2), POINTS, N("n"), N("m"), N("w"), N("p")), N("p"))
        around = ("join", Z(2), N("n"), N("m"), N("n"), N("w"), ("back", Z(2), N("n"), N("m"), N("w")))
        self.assert_equal(FOUND, ("carry", "k", Z(2), kind, N("n"), N("n"), around, N("p")), N("p"))

    def test_exchanges_are_their_maps(self):
        """Point 15, with a map between sizes that are names."""
        n, m = of(2, N("n")), of(2, N("m"))
        moved = ("carry", "k", Z(2), of(2, N("k")), N("n"), N("m"), N("w"), N("q"))
        function = ("fun", "q", n, m, moved)
        exchange = ("exchange", 2, "q", N("n"), N("m"), function)
        self.assert_equal(WAY, exchange, N("w"))
        carried = ("carry", "k", Z(2), of(2, N("k")), N("n"), N("m"), exchange, N("p"))
        self.assert_equal(FOUND, carried, ("app", "q", n, m, function, N("p")))
        flip = ("fun", "q", S(2), S(2), case(2, N("q"), (P(2, 1), P(2, 0))))
        same = ("fun", "q", S(2), S(2), N("q"))
        for function, other in ((flip, same), (same, flip)):
            exchange = ("exchange", 2, "q", Q(2, 2), Q(2, 2), function)
            carried = ("carry", "k", Z(2), of(2, N("k")), Q(2, 2), Q(2, 2), exchange, N("b"))
            self.assert_equal(BIT, carried, ("app", "q", S(2), S(2), function, N("b")))
            self.assert_other(BIT, carried, ("app", "q", S(2), S(2), other, N("b")))

    def test_ways_of_pairs_and_maps(self):
        both = ("pairs", "k", Z(2), Z(2))
        ends = [("pair",) + both[1:] + (N(x), N(x)) for x in ("n", "m")]
        ways = ("pairway",) + both[1:] + (ends[0], ends[1], N("w"), N("w"))
        self.assert_equal(WAY, ways, ("led", "x", Z(2), both, ("pair",) + both[1:] + (N("x"), N("x")), N("n"), N("m"), N("w")))
        maps = ("maps", "q", S(2), Z(2))
        ends = [("fun",) + maps[1:] + (N(x),) for x in ("n", "m")]
        ways = ("mapway",) + maps[1:] + (ends[0], ends[1], N("w"))
        self.assert_equal(WAY, ways, ("led", "x", Z(2), maps, ("fun",) + maps[1:] + (N("x"),), N("n"), N("m"), N("w")))
        self.assert_other(WAY, ways, N("w"))
        stay = [("stay", maps, ends[0]), ("mapway",) + maps[1:] + (ends[0], ends[0], ("stay", Z(2), N("n")))]
        self.assert_equal(WAY, stay[0], stay[1])

    def test_equal_things_are_alike(self):
        """Point 14: the same in flat types, and any tells the classes."""
        flat = of(4, ("code", 4, ("classes", Z(2))))
        body = ("index", 4, ("classes", Z(2)), ("class", Z(2), N("x")))
        ends = [("given", "x", Z(2), N(x), body) for x in ("n", "m")]
        self.assert_equal(WAY, ends[0], ends[1])
        self.assert_other(TWO, ends[0], ends[1])
        tell = ("any", WAYS)
        self.assert_equal(WAY, tell, P(2, 1))
        self.assert_other(TWO, tell, P(2, 1))
        self.assert_equal(WAY, ("given", "y", S(1), P(1, 0), ends[0]), ends[1])
        self.assertEqual(flat[0], "of")


class NearMissTest(EqualTest):

    def test_at_one_place_alone(self):
        other = case(4, N("a"), (P(2, 0), P(2, 0), P(2, 0), P(2, 1)))
        self.assert_other((("a", S(4)),), other, P(2, 0))
        self.assert_equal((("a", S(3)),), case(3, N("a"), (P(2, 0), P(2, 0), P(2, 0))), P(2, 0))

    def test_along_one_step_alone(self):
        # The inverse of a permutation of three points differs from it along the two turns alone.
        context = (("n", Z(3)), ("w", ("ways", Z(3), N("n"), N("n"))))
        back = ("back", Z(3), N("n"), N("n"), N("w"))
        self.assert_other(context, back, N("w"))
        self.assert_equal((("n", Z(2)), ("w", ("ways", Z(2), N("n"), N("n")))), ("back", Z(2), N("n"), N("n"), N("w")), N("w"))

    def test_types_that_are_not_equal(self):
        self.assert_other(EMPTY, ("pair", "k", S(2), S(2), P(2, 0), P(2, 0)), ("pair", "k", S(2), S(1), P(2, 0), P(1, 0)))
        self.assert_other(EMPTY, ("left", S(1), S(2), P(1, 0)), ("left", S(1), S(1), P(1, 0)))
        self.assert_other(EMPTY, ("class", S(2), P(2, 0)), P(2, 1))
        self.assert_equal(EMPTY, ("class", S(2), P(2, 0)), P(2, 0))
        self.assert_other(POINT, N("p"), ("given", "x", of(3, N("n")), N("p"), N("n")))


if __name__ == "__main__":
    unittest.main()
