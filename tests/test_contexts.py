"""Places and steps of contexts (points 5 to 7)."""

import unittest

from compare import compare_context
from isthmus.contexts import MOST, back_step, join_steps, places, stay_step, steps
from short import CONTEXTS, FAMILY, N, NONE, POINT, S, SIZE, WAY, Z, of


class PlacesTest(unittest.TestCase):

    def test_empty_context(self):
        self.assertEqual(places(()), [()])
        self.assertEqual(steps((), (), ()), [()])
        self.assertEqual(join_steps((), ((), (), ()), (), ()), ())
        self.assertEqual(back_step((), (), (), ()), ())
        self.assertEqual(stay_step((), ()), ())

    def test_most(self):
        self.assertEqual(MOST, 520)

    def test_one_name(self):
        self.assertEqual(places((("a", S(0)),)), [])
        self.assertEqual(places((("abcdefgh", S(3)),)), [(0,), (1,), (2,)])
        self.assertEqual(places((("n", Z(4)),)), [(0,), (1,), (2,), (3,), (4,)])
        self.assertEqual(places((("a", of(4, ("size", 4, 4))),)), [(0,), (1,), (2,), (3,)])

    def test_later_types_hang_on_names_ahead(self):
        self.assertEqual(places(POINT), [(1, 0), (2, 0), (2, 1), (3, 0), (3, 1), (3, 2)])
        self.assertEqual(places(NONE), [])
        self.assertEqual(places(WAY), [(0, 0, ()), (1, 1, (0,)), (2, 2, (0, 1)), (2, 2, (1, 0))])

    def test_names_that_begin_alike(self):
        context = (("a", S(2)), ("ab", S(2)), ("abc", ("ways", S(2), N("a"), N("ab"))), ("d", S(1)))
        self.assertEqual(places(context), [(0, 0, (), 0), (1, 1, (), 0)])

    def test_objects_that_are_pairs(self):
        context = (("p", ("pairs", "k", Z(2), of(2, N("k")))), ("a", S(2)))
        self.assertEqual(places(context), [((1, 0), 0), ((1, 0), 1), ((2, 0), 0), ((2, 0), 1), ((2, 1), 0), ((2, 1), 1)])


class StepsTest(unittest.TestCase):

    def test_steps_of_sets(self):
        context = (("a", S(2)), ("b", S(3)))
        self.assertEqual(steps(context, (1, 2), (1, 2)), [((), ())])
        self.assertEqual(steps(context, (1, 2), (1, 1)), [])

    def test_steps_of_sizes(self):
        self.assertEqual(steps(SIZE, (0,), (0,)), [((),)])
        self.assertEqual(steps(SIZE, (2,), (2,)), [((0, 1),), ((1, 0),)])
        self.assertEqual(steps(SIZE, (3,), (3,)), [((0, 1, 2),), ((0, 2, 1),), ((1, 0, 2),), ((1, 2, 0),), ((2, 0, 1),),
                                                   ((2, 1, 0),)])
        self.assertEqual(steps(SIZE, (2,), (3,)), [])
        self.assertEqual(len(steps((("n", Z(4)),), (4,), (4,))), 24)

    def test_a_point_goes_with_its_size(self):
        self.assertEqual(steps(POINT, (2, 0), (2, 1)), [((1, 0), ())])
        self.assertEqual(steps(POINT, (2, 0), (2, 0)), [((0, 1), ())])
        self.assertEqual(steps(POINT, (3, 1), (3, 2)), [((0, 2, 1), ()), ((1, 2, 0), ())])
        self.assertEqual(steps(POINT, (1, 0), (2, 0)), [])

    def test_composite_of_points(self):
        first, second = ((1, 2, 0), ()), ((0, 2, 1), ())
        # 1 goes to 2 and then to 1; 0 to 1 to 2; 2 to 0 to 0.
        self.assertEqual(join_steps(POINT, ((3, 1), (3, 2), (3, 1)), first, second), ((2, 1, 0), ()))
        self.assertEqual(back_step(POINT, (3, 1), (3, 2), first), ((2, 0, 1), ()))
        self.assertEqual(stay_step(POINT, (3, 1)), ((0, 1, 2), ()))


class MovedArrowsTest(unittest.TestCase):
    """In FAMILY a step of n moves the arrows of f."""

    here = (2, ((2, 1), ((0, 1), (0,))))
    there = (2, ((1, 2), ((0,), (0, 1))))
    swap = (1, 0)

    def test_steps(self):
        self.assertEqual(steps(FAMILY, self.here, self.there),
                         [(self.swap, ((0,), (0, 1))), (self.swap, ((0,), (1, 0)))])
        self.assertEqual(steps(FAMILY, self.here, self.here), [((0, 1), ((0, 1), (0,))), ((0, 1), ((1, 0), (0,)))])

    def test_join(self):
        round_trip = (self.here, self.there, self.here)
        first = (self.swap, ((0,), (1, 0)))
        self.assertEqual(join_steps(FAMILY, round_trip, first, (self.swap, ((1, 0), (0,)))), ((0, 1), ((0, 1), (0,))))
        self.assertEqual(join_steps(FAMILY, round_trip, first, (self.swap, ((0, 1), (0,)))), ((0, 1), ((1, 0), (0,))))

    def test_back(self):
        first = (self.swap, ((0,), (1, 0)))
        self.assertEqual(back_step(FAMILY, self.here, self.there, first), (self.swap, ((1, 0), (0,))))

    def test_stay(self):
        self.assertEqual(stay_step(FAMILY, self.there), ((0, 1), ((0,), (0, 1))))

    def test_a_way_is_conjugated(self):
        context = (("n", Z(3)), ("w", ("ways", Z(3), N("n"), N("n"))))
        # n goes 0 to 1 to 2 to 0, so the exchange of 0 and 1 becomes that of 1 and 2.
        self.assertEqual(steps(context, (3, (1, 0, 2)), (3, (0, 2, 1))), [((1, 2, 0), ()), ((2, 1, 0), ())])


class AllContextsTest(unittest.TestCase):

    def test_against_the_slow_reading(self):
        for context in CONTEXTS:
            with self.subTest(context=context):
                compare_context(self, context)

    def test_steps_are_a_groupoid(self):
        for context in CONTEXTS:
            found = places(context)
            rows = [(g, h, s) for g in found for h in found for s in steps(context, g, h)]
            for g, h, s in rows[::3]:
                rest, back = stay_step(context, g), back_step(context, g, h, s)
                self.assertEqual(join_steps(context, (g, g, h), rest, s), s)
                self.assertEqual(join_steps(context, (g, h, g), s, back), rest)
                self.assertEqual(back_step(context, h, g, back), s)
                for h2, k, t in [row for row in rows if row[0] == h][:3]:
                    for k2, m, r in [row for row in rows if row[0] == k][-3:]:
                        one = join_steps(context, (g, k, m), join_steps(context, (g, h, k), s, t), r)
                        two = join_steps(context, (g, h, m), s, join_steps(context, (h, k, m), t, r))
                        self.assertEqual(one, two)


if __name__ == "__main__":
    unittest.main()
