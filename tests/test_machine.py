"""Types of terms, and what terms are at places and along steps (points 8 and 13)."""

import unittest

import plain
from compare import compare_term, thinned
from isthmus.contexts import back_step, join_steps, places, stay_step, steps
from isthmus.forms import TERMS
from isthmus.machine import along, table, value
from isthmus.terms import type_of
from isthmus.types import act, act_arrow, arrows, compose, identity, objects
from growing import well_named
from samples import (ALONE, ALONE_KIND, BIT, CLASSED, CONST, EITHER, FIRST, FOUND, MARKED, MARKS, PAIR, PAIRED, POINT2, POINTED,
                     SAMPLES, SECOND, SIZE2, SWAP, TURN, WAYS, CARRIED)
from short import EMPTY, FAMILY, N, NONE, P, POINT, Q, S, TWO, WAY, Z, of


class SamplesTest(unittest.TestCase):

    def each_sample(self, check):
        for context, term, kind in SAMPLES:
            with self.subTest(context=context, term=term):
                check(context, term, kind)

    def test_each_form_is_there(self):
        self.assertEqual({term[0] for _, term, _ in SAMPLES}, set(TERMS))

    def test_types(self):
        self.each_sample(lambda context, term, kind: self.assertEqual(type_of(context, term), kind))

    def test_against_the_slow_reading(self):
        self.each_sample(lambda context, term, kind: compare_term(self, context, term))

    def test_value_and_along_are_the_table(self):
        def check(context, term, kind):
            rows, tracks = table(context, term)
            self.assertEqual([place for place, _ in rows], places(context))
            self.assertEqual(rows, sorted(rows))
            self.assertEqual(tracks, sorted(tracks))
            found = [(g, h, s) for g in places(context) for h in places(context) for s in steps(context, g, h)]
            self.assertEqual([row[:3] for row in tracks], found)
            for place, thing in rows:
                self.assertEqual(value(context, term, place), thing)
            for start, end, step, arrow in tracks:
                self.assertEqual(along(context, term, start, end, step), arrow)

        self.each_sample(check)

    def test_laws(self):
        """Point 8, asked of the program's own answers about the type."""
        def check(context, term, kind):
            if not well_named(kind, context):
                return
            rows, tracks = table(context, term)
            of_place, of_step = dict(rows), {row[:3]: row[3] for row in tracks}
            for g, a in rows:
                self.assertIn(a, objects(context, kind, g))
                self.assertEqual(of_step[(g, g, stay_step(context, g))], identity(context, kind, g, a))
            for g, h, s in thinned(list(of_step), 12):
                moved = act(context, kind, g, h, s, of_place[g])
                self.assertIn(of_step[(g, h, s)], arrows(context, kind, h, moved, of_place[h]))
                for h2, k, t in thinned([row for row in of_step if row[0] == h], 4):
                    both = join_steps(context, (g, h, k), s, t)
                    ends = (moved, of_place[h])
                    first = act_arrow(context, kind, h, k, t, ends, of_step[(g, h, s)])
                    joined = tuple(act(context, kind, h, k, t, end) for end in ends) + (of_place[k],)
                    self.assertEqual(of_step[(g, k, both)], compose(context, kind, k, joined, first, of_step[(h, k, t)]))
                back = back_step(context, g, h, s)
                self.assertIn((h, g, back), of_step)

        self.each_sample(check)

    def test_lists_are_new(self):
        for _ in range(2):
            rows, tracks = table(SIZE2, N("n"))
            self.assertEqual(rows, [((0,), 0), ((1,), 1), ((2,), 2)])
            self.assertEqual(tracks, [((0,), (0,), ((),), ()), ((1,), (1,), ((0,),), (0,)), ((2,), (2,), ((0, 1),), (0, 1)),
                                      ((2,), (2,), ((1, 0),), (1, 0))])
            rows.clear()
            tracks.clear()
        self.assertIsInstance(table(SIZE2, N("n")), tuple)


class TableTest(unittest.TestCase):
    """Tables that are worked out by hand, as the objects and the arrows in the order of places and steps."""

    def assert_table(self, context, term, things, links):
        rows, tracks = table(context, term)
        self.assertEqual([thing for _, thing in rows], things)
        self.assertEqual([row[3] for row in tracks], links)

    def test_sizes_and_points(self):
        # One place for each size from 0 to 2; steps: (), (0,), (0, 1) and (1, 0).
        self.assert_table(SIZE2, N("n"), [0, 1, 2], [(), (0,), (0, 1), (1, 0)])
        self.assert_table(SIZE2, Q(2, 1), [1, 1, 1], [(0,)] * 4)
        self.assert_table(SIZE2, P(3, 2), [2, 2, 2], [()] * 4)
        self.assert_table(EMPTY, Q(4, 4), [4], [(0, 1, 2, 3)])
        self.assert_table(NONE, N("v"), [], [])
        self.assert_table(NONE, ("case", 0, "x", Z(2), N("v"), ()), [], [])

    def test_point_of_a_size(self):
        # Places (1, 0), (2, 0), (2, 1); the exchange goes from (2, 0) to (2, 1) and back.
        self.assert_table(POINT2, N("p"), [0, 0, 1], [()] * 5)
        self.assert_table(POINT2, N("n"), [1, 2, 2], [(0,), (0, 1), (1, 0), (1, 0), (0, 1)])
        self.assert_table(POINT2, PAIR, [(1, 0), (2, 0), (2, 1)],
                          [((0,), ()), ((0, 1), ()), ((1, 0), ()), ((1, 0), ()), ((0, 1), ())])

    def test_case(self):
        branches = (Q(2, 2), N("n"), Q(2, 0))
        context = SIZE2 + (("a", S(3)),)
        term = ("case", 3, "x", Z(2), N("a"), branches)
        self.assert_table(context, term, [2, 0, 0, 2, 1, 0, 2, 2, 0],
                          [(0, 1), (), (), (0, 1), (0,), ()] + [(0, 1), (0, 1), (0, 1), (1, 0), (), ()])
        self.assert_table(BIT, ("case", 2, "x", S(3), N("b"), (P(3, 2), P(3, 0))), [2, 0], [(), ()])

    def test_codes(self):
        self.assert_table(SIZE2, ("code", 2, of(2, N("n"))), [0, 1, 2], [(), (0,), (0, 1), (1, 0)])
        self.assert_table(SIZE2, ("code", 4, MARKED), [1, 2, 4], [(0,), (0, 1), (0, 1, 2, 3), (0, 2, 1, 3)])
        kind = ("either", of(2, N("n")), S(1))
        self.assert_table(SIZE2, ("code", 3, kind), [1, 2, 3], [(0,), (0, 1), (0, 1, 2), (1, 0, 2)])
        self.assert_table(SIZE2, ("code", 2, ("ways", Z(2), N("n"), N("n"))), [1, 1, 2], [(0,), (0,), (0, 1), (0, 1)])
        self.assert_table(SIZE2, ("code", 3, ("classes", Z(2))), [3, 3, 3], [(0, 1, 2)] * 4)
        # One object for each point, in the order of the points.
        alike = ("pairs", "k", of(3, N("n")), ("ways", of(3, N("n")), N("k"), N("k")))
        self.assertEqual(along((("n", Z(3)),), ("code", 3, alike), (3,), (3,), ((1, 2, 0),)), (1, 2, 0))

    def test_index_and_item(self):
        kind = ("pairs", "k", of(2, N("n")), S(2))
        pair = ("pair",) + kind[1:] + (N("p"), P(2, 1))
        self.assert_table(POINT2, ("index", 4, kind, pair), [1, 1, 3], [()] * 5)
        self.assert_table(POINT2, ("item", 4, kind, ("index", 4, kind, pair)), [(0, 1), (0, 1), (1, 1)], [((), ())] * 5)
        self.assert_table(EMPTY, ("index", 4, Z(1), Q(1, 1)), [1], [()])
        # The one arrow of a size of one point is (0,).
        self.assert_table(EMPTY, ("item", 2, Z(1), P(2, 1)), [1], [(0,)])

    def test_parts_of_pairs(self):
        # Places ((1, 0),), ((2, 0),), ((2, 1),).
        self.assert_table(PAIRED, ("first",) + POINTED[1:] + (N("r"),), [1, 2, 2], [(0,), (0, 1), (1, 0), (1, 0), (0, 1)])
        self.assert_table(PAIRED, ("second",) + POINTED[1:] + (N("r"),), [0, 0, 1], [()] * 5)
        context = (("r", ("pairs", "k", S(2), Z(2))),)
        self.assertEqual(along(context, ("second", "k", S(2), Z(2), N("r")), ((1, 2),), ((1, 2),), (((), (1, 0)),)), (1, 0))

    def test_maps(self):
        points = of(2, N("n"))
        self.assert_table(SIZE2, ("fun", "q", points, points, N("q")), [((), ()), ((0,), ((),)), ((0, 1), ((), ()))],
                          [(), ((),), ((), ()), ((), ())])
        self.assert_table(SIZE2, ("fun", "q", points, Z(2), N("n")), [((), ()), ((1,), ((0,),)), ((2, 2), ((0, 1), (0, 1)))],
                          [(), ((0,),), ((0, 1), (0, 1)), ((1, 0), (1, 0))])
        self.assert_table(EMPTY, ("fun", "x", Z(2), Z(2), N("x")), [((0, 1, 2), ((), (0,), (0, 1), (1, 0)))],
                          [((), (0,), (0, 1))])
        constant = ("fun", "q", S(2), Z(2), N("n"))
        self.assert_table(SIZE2, ("app", "q", S(2), Z(2), constant, P(2, 1)), [0, 1, 2], [(), (0,), (0, 1), (1, 0)])
        both = ("fun", "x", Z(2), Z(2), ("code", 2, of(2, N("x"))))
        self.assert_table(SIZE2, ("app", "x", Z(2), Z(2), both, N("n")), [0, 1, 2], [(), (0,), (0, 1), (1, 0)])
        self.assert_table(SIZE2, ("open", "n", Z(2), Z(2), ("fun", "n", Z(2), Z(2), N("n"))), [0, 1, 2],
                          [(), (0,), (0, 1), (1, 0)])

    def test_a_map_that_steps_move(self):
        # f takes the points of n to sizes; the exchange of the points takes (0, 2) to (2, 0).
        term = ("app", "q", of(2, N("n")), Z(2), N("f"), N("p"))
        context = FAMILY + (("p", of(2, N("n"))),)
        here = (2, ((0, 2), ((), (0, 1))), 1)
        there = (2, ((2, 0), ((0, 1), ())), 0)
        self.assertEqual((value(context, term, here), value(context, term, there)), (2, 2))
        self.assertEqual(steps(context, here, there), [((1, 0), ((0, 1), ()), ()), ((1, 0), ((1, 0), ()), ())])
        self.assertEqual(along(context, term, here, there, ((1, 0), ((1, 0), ()), ())), (1, 0))
        self.assertEqual(along(context, term, here, there, ((1, 0), ((0, 1), ()), ())), (0, 1))
        self.assertEqual(value(context, N("f"), here), here[1])
        self.assertEqual(along(context, N("f"), here, there, ((1, 0), ((1, 0), ()), ())), ((1, 0), ()))

    def test_both_arrows_of_a_map_at_a_term(self):
        # The map k is to be carried along n and the arrow of the map itself along m: their composite.
        maps = ("maps", "x", Z(2), Z(2))
        context = (("f", maps), ("n", Z(2)))
        term = ("app", "x", Z(2), Z(2), N("f"), N("n"))
        f = ((2, 2, 2), ((0, 1), (0, 1), (0, 1), (1, 0)))
        place = (f, 2)
        self.assertIn(place, places(context))
        for w in ((0, 1), (1, 0)):
            for u in ((0, 1), (1, 0)):
                step = (((0, 1), (0, 1), w), u)
                self.assertEqual(along(context, term, place, place, step), (0, 1) if u == w else (1, 0))

    def test_ways(self):
        self.assert_table(SIZE2, ("stay", Z(2), N("n")), [(), (0,), (0, 1)], [()] * 4)
        self.assert_table(EMPTY, TURN, [(1, 2, 0)], [()])
        three = (Z(3), Q(3, 3), Q(3, 3))
        self.assert_table(EMPTY, ("back",) + three + (TURN,), [(2, 0, 1)], [()])
        self.assert_table(EMPTY, ("join",) + three + (Q(3, 3), TURN, TURN), [(2, 0, 1)], [()])
        # First the turn 0 to 1 to 2, then the exchange of 0 and 1: 0 to 0, 1 to 2, 2 to 1.
        flip = ("case", 3, "i", S(3), N("q"), (P(3, 1), P(3, 0), P(3, 2)))
        flip = ("exchange", 3, "q", Q(3, 3), Q(3, 3), ("fun", "q", S(3), S(3), flip))
        self.assert_table(EMPTY, ("join",) + three + (Q(3, 3), TURN, flip), [(0, 2, 1)], [()])
        self.assert_table(EMPTY, ("join",) + three + (Q(3, 3), flip, TURN), [(2, 1, 0)], [()])

    def test_ways_between_names(self):
        place = (2, 2, (1, 0))
        self.assertEqual(value(WAY, ("led", "x", Z(2), Z(4), MARKS, N("n"), N("m"), N("w")), place), (0, 2, 1, 3))
        self.assertEqual(value(WAY, ("led", "x", Z(2), Z(2), N("x"), N("n"), N("m"), N("w")), place), (1, 0))
        self.assertEqual(value(WAY, ("pairway", "k", Z(2), Z(2), FIRST, SECOND, N("w"), ("stay", Z(2), N("n"))), place),
                         ((1, 0), (0, 1)))
        self.assertEqual(value(WAY, ("mapway", "q", S(2), Z(2), CONST["n"], CONST["m"], N("w")), place), ((1, 0), (1, 0)))
        self.assertEqual(value(FOUND, CARRIED, place + (0,)), 1)
        self.assertEqual(value(FOUND, CARRIED, place + (1,)), 0)
        self.assertEqual(value(FOUND, CARRIED, (2, 2, (0, 1), 1)), 1)
        # The points of n are exchanged, and so is the way, but not the point that it leads to.
        step = ((1, 0), (0, 1), (), ())
        self.assertEqual(steps(FOUND, place + (0,), (2, 2, (0, 1), 1)), [step])
        self.assertEqual(along(FOUND, CARRIED, place + (0,), (2, 2, (0, 1), 1), step), ())

    def test_carried_sizes(self):
        kind = ("maps", "q", of(2, N("k")), Z(2))
        term = ("carry", "k", Z(2), kind, Q(2, 2), Q(2, 2), SWAP, N("f"))
        context = (("f", ("maps", "q", S(2), Z(2))),)
        place, other = (((1, 2), ((0,), (0, 1))),), (((0, 2), ((), (0, 1))),)
        self.assertEqual(value(context, term, place), ((2, 1), ((0, 1), (0,))))
        self.assertEqual(value(context, term, other), ((2, 0), ((0, 1), ())))
        self.assertEqual(along(context, term, place, place, (((0,), (1, 0)),)), ((1, 0), (0,)))

    def test_exchange_by_a_name(self):
        context = SIZE2 + (("h", ("ways", Z(2), N("n"), N("n"))),)
        same = ("exchange", 2, "q", N("n"), N("n"), ("fun", "q", of(2, N("n")), of(2, N("n")), N("q")))
        self.assertEqual([value(context, same, place) for place in places(context)], [(), (0,), (0, 1), (0, 1)])
        moved = ("carry", "k", Z(2), of(2, N("k")), N("n"), N("n"), N("h"), N("q"))
        same = ("exchange", 2, "q", N("n"), N("n"), ("fun", "q", of(2, N("n")), of(2, N("n")), moved))
        self.assertEqual([value(context, same, place) for place in places(context)], [(), (0,), (0, 1), (1, 0)])

    def test_any_and_only(self):
        self.assert_table(SIZE2, ("any", of(2, N("n"))), [0, 1, 1], [()] * 4)
        self.assert_table(TWO, ("any", WAYS), [1, 0, 0, 0, 1, 0, 0, 0, 1], [()] * 16)
        self.assert_table(SIZE2, ("only", ("maps", "q", of(2, N("n")), S(1))), [((), ()), ((0,), ((),)), ((0, 0), ((), ()))],
                          [(), ((),), ((), ()), ((), ())])
        self.assert_table(EMPTY, ("only", ALONE_KIND), [(1, ())], [((), ())])
        self.assert_table(ALONE, ("only", ("ways", S(2), P(2, 1), N("b"))), [()], [()])

    def test_classes(self):
        kind = ("pairs", "k", Z(2), of(2, N("k")))
        self.assert_table(PAIRED, ("class", kind, N("r")), [(1, 0), (2, 0), (2, 0)], [()] * 5)
        self.assert_table(POINT, ("class", of(3, N("n")), N("p")), [0, 0, 1, 0, 1, 2], [()] * 23)
        body = ("any", ("ways", Z(2), ("first",) + kind[1:] + (N("x"),), Q(2, 2)))
        term = ("eachclass", "x", kind, S(2), body, ("class", kind, N("r")))
        self.assert_table(PAIRED, term, [0, 1, 1], [()] * 5)
        term = ("eachclass", "x", CLASSED[1][1][1], of(2, N("n")), ("first",) + CLASSED[1][1][1][1:] + (N("x"),), N("c"))
        self.assertEqual([value(CLASSED, term, place) for place in places(CLASSED)], [0, 0, 0, 0, 1, 1])

    def test_sides(self):
        self.assertEqual(places(EITHER), [(0, (1, 0)), (0, (1, 1)), (1, (0, 0)), (1, (1, 0)), (1, (1, 1)), (2, (0, 0)),
                                          (2, (0, 1)), (2, (1, 0)), (2, (1, 1))])
        term = ("split", "z", of(2, N("n")), Z(1), Z(2), "x", N("n"), "y", Q(2, 1), N("e"))
        self.assertEqual([value(EITHER, term, place) for place in places(EITHER)], [1, 1, 1, 1, 1, 2, 2, 1, 1])
        self.assertEqual(along(EITHER, term, (2, (0, 0)), (2, (0, 1)), ((1, 0), ())), (1, 0))
        self.assertEqual(along(EITHER, term, (2, (1, 1)), (2, (1, 1)), ((1, 0), (0,))), (0,))
        term = ("split", "z", of(2, N("n")), Z(1), Z(1), "x", Q(1, 0), "y", N("y"), N("e"))
        self.assertEqual([value(EITHER, term, place) for place in places(EITHER)], [0, 1, 0, 0, 1, 0, 0, 0, 1])
        self.assertEqual(along(EITHER, term, (2, (1, 1)), (2, (1, 1)), ((1, 0), (0,))), (0,))
        self.assert_table(SIZE2, ("right", of(2, N("n")), Z(2), N("n")), [(1, 0), (1, 1), (1, 2)], [(), (0,), (0, 1), (1, 0)])

    def test_given(self):
        self.assert_table(SIZE2, ("given", "x", Z(2), N("n"), N("x")), [0, 1, 2], [(), (0,), (0, 1), (1, 0)])
        self.assert_table(SIZE2, ("given", "x", S(2), P(2, 0), N("n")), [0, 1, 2], [(), (0,), (0, 1), (1, 0)])
        self.assert_table(SIZE2, ("given", "x", Z(2), N("n"), ("code", 4, ("maps", "q", of(2, N("x")), S(2)))), [1, 2, 4],
                          [(0,), (0, 1), (0, 1, 2, 3), (0, 2, 1, 3)])


def tearDownModule():
    for name in dir(plain):
        if hasattr(getattr(plain, name), "cache_clear"):
            getattr(plain, name).cache_clear()


if __name__ == "__main__":
    unittest.main()
