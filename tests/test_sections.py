"""All meanings that a term of a type could have (points 8 and 18)."""

import unittest
from unittest.mock import patch

import plain
import plain_closed
from growing import well_named
from isthmus.closed import sections
from isthmus.contexts import MOST
from isthmus.errors import TooLarge
from isthmus.loops import LoopSearch
from isthmus.machine import table
from isthmus.types import objects
from samples import BIT, EITHER, MARKED, PAIRED, POINT2, SAMPLES, SIZE2
from short import CONTEXTS, EMPTY, FAMILY, N, NONE, P, POINT, Q, S, SIZE, TWO, TYPES, WAY, Z, of
from test_closed import alone, cycles


def any_arrow(told, turn, shift):
    """Some arrow from the image along a loop back to the object; the identity, if both are the same."""
    if told.images[turn] == told.thing:
        return told.fibre.identity(told.thing)
    rows = told.fibre.links(told.images[turn], told.thing)
    return rows[(turn * turn + shift) % len(rows)]


class SectionsTest(unittest.TestCase):

    def assert_sections(self, context, kind, wanted):
        self.assertEqual(sections(context, kind), wanted)
        self.assertEqual(plain_closed.meanings(context, kind), wanted)

    def tearDown(self):
        for name in dir(plain):
            if hasattr(getattr(plain, name), "cache_clear"):
                getattr(plain, name).cache_clear()

    def test_empty_context(self):
        self.assert_sections(EMPTY, S(3), [((0,), ((),)), ((1,), ((),)), ((2,), ((),))])
        self.assert_sections(EMPTY, S(0), [])
        self.assert_sections(EMPTY, Z(2), [((0,), ((),)), ((1,), ((0,),)), ((2,), ((0, 1),))])
        self.assert_sections(EMPTY, ("pairs", "k", Z(2), of(2, N("k"))),
                             [(((1, 0),), (((0,), ()),)), (((2, 0),), (((0, 1), ()),)), (((2, 1),), (((0, 1), ()),))])

    def test_without_places(self):
        for context in (NONE, (("a", S(0)),), (("a", S(0)), ("b", Z(2)))):
            for kind in (S(0), S(1), S(4), Z(4), ("maps", "k", S(4), Z(4))):
                self.assert_sections(context, kind, [((), ())])

    def test_sets(self):
        self.assert_sections(BIT, S(2), [((a, b), ((), ())) for a in (0, 1) for b in (0, 1)])
        self.assert_sections(BIT, of(2, ("case", 2, "i", Z(2), N("b"), (Q(2, 1), Q(2, 2)))), [((0, b), ((), ())) for b in (0, 1)])
        self.assert_sections(BIT, of(2, ("case", 2, "i", Z(2), N("b"), (Q(2, 2), Q(2, 0)))), [])
        self.assert_sections(SIZE2, S(2), [((a, b, c), ((),) * 4) for a in (0, 1) for b in (0, 1) for c in (0, 1)])

    def test_points_of_a_size(self):
        # No point of the size 0; and none of two points that is kept where they are exchanged.
        self.assert_sections(SIZE2, of(2, N("n")), [])
        two = (("r", alone(2, "s")),)
        points = of(2, ("first",) + alone(2, "s")[1:] + (N("r"),))
        self.assert_sections(two, points, [])
        self.assert_sections(two + (("p", points),), points, [((0, 1), ((),) * 4), ((1, 0), ((),) * 4)])
        one = (("r", alone(1, "s")),)
        self.assert_sections(one, of(1, ("first",) + alone(1, "s")[1:] + (N("r"),)), [((0,), ((),))])
        # Beside a point there is the point itself, and, where there are two, the other one.
        self.assert_sections(POINT2, of(2, N("n")), [((0, 0, 1), ((),) * 5), ((0, 1, 0), ((),) * 5)])

    def test_sizes_over_sizes(self):
        # Over the exchange of two points: a size, and one of its permutations that is its own inverse.
        two = (("r", alone(2, "s")),)
        wanted = [((0,), ((), ())), ((1,), ((0,), (0,)))]
        wanted += [((2,), ((0, 1), u)) for u in ((0, 1), (1, 0))]
        self.assert_sections(two, Z(2), wanted)
        wanted += [((3,), ((0, 1, 2), u)) for u in ((0, 1, 2), (0, 2, 1), (1, 0, 2), (2, 1, 0))]
        self.assert_sections(two, Z(3), wanted)
        # Over the turns of three points: a permutation that gives the identity if done three times.
        three = (("r", cycles(3, "n")),)
        self.assertEqual(len(objects(EMPTY, cycles(3, "n"), ())), 2)
        found = sections(three, Z(2))
        self.assertEqual([row[0] for row in found], [(0, 0), (1, 1), (2, 2), (2, 2)])
        self.assertEqual(found, plain_closed.meanings(three, Z(2)))

    def test_ways(self):
        kind = ("ways", Z(2), N("n"), N("n"))
        self.assert_sections(SIZE2, kind, [(((), (0,), u), ((),) * 4) for u in ((0, 1), (1, 0))])
        self.assert_sections(WAY, ("ways", Z(2), N("n"), N("m")), sections(WAY, ("ways", Z(2), N("m"), N("n"))))
        self.assert_sections(TWO, ("ways", Z(2), N("n"), N("m")), [])

    def test_maps_and_sides(self):
        points = of(2, N("n"))
        # A map from the points to a set of two that no exchange changes is the same at both points.
        self.assert_sections(SIZE2, MARKED, [((((), ()), ((a,), ((),)), ((b, b), ((), ()))), ((), ((),), ((), ()), ((), ())))
                                             for a in (0, 1) for b in (0, 1)])
        self.assert_sections(SIZE2, ("maps", "q", points, points),
                             [((((), ()), ((0,), ((),)), (pair, ((), ()))), ((), ((),), ((), ()), ((), ())))
                              for pair in ((0, 1), (1, 0))])
        self.assert_sections(SIZE2, ("either", points, S(1)), [(((1, 0),) * 3, ((),) * 4), (((1, 0), (0, 0), (1, 0)), ((),) * 4)][::-1])

    def test_samples(self):
        done = 0
        rows = [(context, S(2)) for context in CONTEXTS] + [(context, Z(2)) for context in CONTEXTS] + TYPES
        rows += [(context, kind) for context, _, kind in SAMPLES if well_named(kind, context)]
        for context, kind in rows:
            if len(context) > 2:
                continue
            try:
                wanted = plain_closed.meanings(context, kind)
            except plain.Skip:
                continue
            with self.subTest(context=context, kind=kind):
                if len(wanted) > MOST:
                    self.assertRaises(TooLarge, sections, context, kind)
                else:
                    self.assertEqual(sections(context, kind), wanted)
                done += 1
        self.assertGreater(done, 120)

    def test_tables_are_among_them(self):
        done = 0
        for context, term, kind in SAMPLES:
            if not well_named(kind, context):
                continue
            rows, tracks = table(context, term)
            with self.subTest(context=context, term=term):
                try:
                    found = sections(context, kind)
                except TooLarge:
                    continue
                self.assertIn((tuple(row[1] for row in rows), tuple(row[3] for row in tracks)), found)
                self.assertEqual(found, sorted(found))
                done += 1
        self.assertGreater(done, 100)

    def test_not_each_is_a_term(self):
        # A choice between the sizes that goes along with all steps.
        self.assertIn(((1, 0, 2), ((0,), (), (0, 1), (1, 0))), sections(SIZE2, Z(2)))

    def test_new_lists(self):
        for _ in range(2):
            found = sections(EMPTY, S(2))
            self.assertEqual(found, [((0,), ((),)), ((1,), ((),))])
            found.clear()


class ManySectionsTest(unittest.TestCase):

    def test_just_as_many_as_most(self):
        def choices(*numbers):
            return of(4, ("case", 4, "i", Z(4), N("a"), tuple(Q(4, n) for n in numbers)))
        four = (("a", S(4)),)
        kind = ("either", choices(2, 4, 4, 0), ("either", choices(0, 0, 1, 1), ("pairs", "z", choices(0, 0, 0, 4), S(3))))
        self.assertEqual([len(objects(four, kind, (a,))) for a in range(4)], [2, 4, 5, 13])
        self.assertEqual(len(sections(four, kind)), 2 * 4 * 5 * 13)
        self.assertEqual(2 * 4 * 5 * 13, MOST)
        self.assertRaises(TooLarge, sections, four, ("either", kind, choices(0, 0, 0, 1)))
        self.assertRaises(TooLarge, sections, four, ("either", kind, choices(1, 0, 0, 0)))
        self.assertRaises(TooLarge, sections, four, ("pairs", "y", kind, S(2)))
        self.assertEqual(sections(four, ("pairs", "y", kind, S(0))), [])

    def test_521_and_520(self):
        sixteen = ("pairs", "r", S(4), S(4))
        many = ("either", ("pairs", "q", sixteen, sixteen), S(4))
        self.assertEqual(len(objects(EMPTY, many, ())), 260)
        self.assertEqual(len(sections(EMPTY, many)), 260)
        one = (("a", S(2)), ("v", ("ways", S(2), N("a"), P(2, 0))))
        self.assertEqual(len(sections(one, many)), 260)
        # Two places with 20 and 26 objects, and with 20 and 27.
        def over(first, second):
            return ("either", ("pairs", "u", ("ways", S(2), N("a"), P(2, 0)), first),
                    ("pairs", "w", ("ways", S(2), N("a"), P(2, 1)), second))
        twenty = ("either", sixteen, S(4))
        bit = (("a", S(2)),)
        self.assertEqual(len(sections(bit, over(twenty, ("either", twenty, ("either", S(4), S(2)))))), 520)
        self.assertRaises(TooLarge, sections, bit, over(twenty, ("either", twenty, ("either", S(4), S(3)))))
        self.assertEqual(len(sections(bit, over(S(2), many))), 520)
        self.assertRaises(TooLarge, sections, bit, over(S(3), ("pairs", "c", sixteen, ("either", S(4), ("either", S(4), S(3))))))

    def test_many_at_first_and_none_at_last(self):
        # Far more than 520 choices at the places ahead, but none at the last one.
        context = (("a", S(4)), ("b", S(4)))
        last = ("ways", S(2), P(2, 1), ("any", ("ways", ("pairs", "k", S(4), S(4)), ("pair", "k", S(4), S(4), N("a"), N("b")),
                                                 ("pair", "k", S(4), S(4), P(4, 3), P(4, 3)))))
        self.assertRaises(TooLarge, sections, context, S(4))
        gone = ("pairs", "r", S(4), ("ways", S(2), P(2, 0), ("any", last)))
        self.assertEqual([len(objects(context, gone, (3, b))) for b in range(4)], [4, 4, 4, 0])
        self.assertEqual(sections(context, gone), [])

    def test_sections_over_groups(self):
        # Maps of groups. From the permutations of three points to those of four: 1 that forgets all, 9 that tell the
        # sign by an exchange, and 6 for each of the four points that may rest. And so on.
        self.assertEqual(len(sections((("r", alone(3, "s")),), alone(4, "t"))), 34)
        self.assertEqual(len(sections((("r", alone(4, "s")),), alone(4, "t"))), 58)
        self.assertEqual(len(sections((("r", alone(4, "s")),), alone(3, "t"))), 10)
        self.assertEqual(len(sections((("r", alone(2, "s")), ("q", alone(2, "s"))), alone(4, "t"))), 52)

    def test_sections_over_groups_that_move_things(self):
        # Arrows in copies that the points of r tell are chosen by what the loops that keep one point do in one copy: for
        # each map of groups up to conjugation, so many as there are arrows in all copies by those that keep the map.
        def moved(m, kind):
            points = of(m, ("first",) + alone(m, "s")[1:] + (N("r"),))
            return (("r", alone(m, "s")),), ("maps", "q", points, kind)

        self.assertEqual(len(sections(*moved(3, alone(2, "t")))), 2 ** 3 // 2 + 2 ** 3 // 2)
        self.assertEqual(len(sections(*moved(4, alone(2, "t")))), 2 ** 4 // 2 + 2 ** 4 // 2)
        self.assertEqual(len(sections(*moved(2, alone(3, "t")))), 6 ** 2 // 6)
        self.assertEqual(len(sections(*moved(3, alone(3, "t")))), 6 ** 3 // 6 + 6 ** 3 // 2)
        for context, kind in (moved(2, Z(2)), moved(3, Z(1)), moved(2, alone(3, "t"))):
            self.assertEqual(sections(context, kind), plain_closed.meanings(context, kind))

    def test_sections_where_the_loops_move_the_objects(self):
        def size(m, name, x):
            return ("first",) + alone(m, x)[1:] + (N(name),)

        def points(m, name, x):
            return of(m, size(m, name, x))

        two, three = (("r", alone(2, "s")),), (("r", alone(3, "s")),)
        both = (("a", alone(2, "s")), ("b", alone(2, "s")))
        pointed = ("pairs", "k", alone(3, "h"), points(3, "k", "h"))

        def coloured(m, n, name):
            """The maps from m points to the points of a name."""
            return ("pairs", "m", alone(m, "h"), ("maps", "y", points(m, "m", "h"), points(n, name, "s")))

        ways = ("ways", Z(3), size(3, "m", "h"), size(3, "r", "s"))
        told = ("pairs", "m", alone(3, "h"), ("pairs", "f", ways, ("maps", "y", points(3, "m", "h"), alone(2, "g"))))
        rows = [
            # One class of objects, with 36 choices of an object and an arrow to it, by 3 arrows; likewise 9 * 4 by 2.
            (two, ("maps", "y", points(2, "r", "s"), cycles(3, "n")), 12), (two, ("maps", "y", points(2, "r", "s"), pointed), 18),
            # Half of the four points have each colour: the exchange may take two to two as it likes, forth and back.
            (two, coloured(4, 2, "r"), 6 * 2), (three, coloured(3, 3, "r"), 6),
            (three, ("pairs", "z", coloured(3, 3, "r"), alone(2, "g")), 6 * 2), (three, told, 6 * 8),
            # The ten maps of groups from the permutations of three points to themselves.
            (three, ("pairs", "m", alone(3, "h"), ("pairs", "f", ways, alone(3, "g"))), 6 * 10),
            (both, coloured(4, 2, "a"), 24), (both, coloured(4, 2, "b"), 24), (both, ("maps", "y", points(2, "a", "s"), cycles(3, "n")), 12),
            (both, ("maps", "y", points(2, "b", "s"), pointed), 36), (three, pointed, 6), (three, cycles(4, "n"), 12),
        ]
        for context, kind, many in rows:
            with self.subTest(context=context, kind=kind):
                found = sections(context, kind)
                self.assertEqual(len(found), many)
                self.assertEqual(found, plain_closed.meanings(context, kind))
                # The arrows that the search fixes may be any others, as long as they lead back to the object.
                for shift in (1, 2, 5):
                    with patch.object(LoopSearch, "fixed_arrow", lambda search, turn: any_arrow(search.told, turn, shift)):
                        self.assertEqual(sections(context, kind), found)

    def test_none_though_each_object_is_kept(self):
        # Turns of four points, and maps f from these to the points of r that no turn keeps: the exchange of the points
        # of r goes along with turns alone, and a turn done twice is not the identity.
        two = of(2, ("first",) + alone(2, "s")[1:] + (N("r"),))
        _, n, sizes, (_, w, ways, kept) = cycles(4, "n")
        points = of(4, N(n))
        turned = ("carry", "i", Z(4), of(4, N("i")), N(n), N(n), N(w), N("q"))
        ends = [("app", "p", points, two, N("f"), part) for part in (N("q"), turned)]
        alike = ("any", ("pairs", "q", points, ("ways", two, ends[0], ends[1])))
        over = ("pairs", "f", ("maps", "p", points, two), ("ways", S(2), alike, P(2, 0)))
        kind = ("pairs", n, sizes, ("pairs", w, ways, ("pairs", "h", kept, over)))
        context = (("r", alone(2, "s")),)
        self.assertEqual(len(objects(context, kind, ((2, ()),))), 12)
        self.assertEqual(sections(context, kind), [])
        self.assertEqual(len(sections(context, ("either", kind, S(1)))), 1)

    def test_more_than_most_over_steps(self):
        self.assertRaises(TooLarge, sections, SIZE, Z(3))
        self.assertRaises(TooLarge, sections, SIZE, Z(4))
        self.assertEqual(len(sections(SIZE, Z(1))), 16)
        self.assertEqual(len(sections(SIZE, Z(2))), 3 * 3 * 4 * 4)
        # One size of 3 at the first place; at the two others the same size, and any arrow between them.
        self.assertEqual(len(sections(PAIRED, Z(2))), 3 * 4)
        self.assertEqual(len(sections(EITHER, Z(1))), 2 ** 8)
        self.assertRaises(TooLarge, sections, EITHER, Z(2))
        self.assertEqual(len(sections(POINT, of(3, N("n")))), 2)
        # One of two for each of the six ways to have two sizes up to 2 in any order.
        self.assertEqual(len(sections(FAMILY, ("ways", Z(2), N("n"), N("n")))), 2 ** 6)


if __name__ == "__main__":
    unittest.main()
