"""The nine words for types (point 10), by hand and against the slow reading."""

import unittest

from compare import compare_type
from isthmus.types import act, act_arrow, arrows, check_type, compose, identity, inverse, objects
from short import EMPTY, FAMILY, N, P, POINT, Q, S, SIZE, TWO, TYPES, WAY, Z, const, of

POINTED = ("pairs", "k", Z(2), of(2, N("k")))
COUNTED = ("pairs", "k", Z(2), ("maps", "q", of(2, N("k")), Z(2)))
TURN = ((1, 2, 0),)
SWAP = ((1, 0),)


class PlainWordsTest(unittest.TestCase):

    def test_check_type_returns_nothing(self):
        self.assertIsNone(check_type(EMPTY, S(0)))

    def test_set(self):
        self.assertEqual(objects(EMPTY, S(0), ()), [])
        self.assertEqual(objects(EMPTY, S(4), ()), [0, 1, 2, 3])
        self.assertEqual(arrows(EMPTY, S(4), (), 2, 2), [()])
        self.assertEqual(arrows(EMPTY, S(4), (), 2, 3), [])
        self.assertEqual(compose(EMPTY, S(4), (), (2, 2, 2), (), ()), ())
        self.assertEqual(inverse(EMPTY, S(4), (), 2, 2, ()), ())
        self.assertEqual(identity(EMPTY, S(4), (), 2), ())
        self.assertEqual(act(SIZE, S(4), (3,), (3,), TURN, 2), 2)
        self.assertEqual(act_arrow(SIZE, S(4), (3,), (3,), TURN, (2, 2), ()), ())

    def test_sizes(self):
        self.assertEqual(objects(EMPTY, Z(0), ()), [0])
        self.assertEqual(objects(EMPTY, Z(4), ()), [0, 1, 2, 3, 4])
        self.assertEqual(arrows(EMPTY, Z(4), (), 0, 0), [()])
        self.assertEqual(arrows(EMPTY, Z(4), (), 2, 2), [(0, 1), (1, 0)])
        self.assertEqual(arrows(EMPTY, Z(4), (), 2, 3), [])
        self.assertEqual(len(arrows(EMPTY, Z(4), (), 4, 4)), 24)
        # First (1, 2, 0), then (1, 0, 2): 0 to 1 to 0, 1 to 2 to 2, 2 to 0 to 1.
        self.assertEqual(compose(EMPTY, Z(4), (), (3, 3, 3), (1, 2, 0), (1, 0, 2)), (0, 2, 1))
        self.assertEqual(compose(EMPTY, Z(4), (), (3, 3, 3), (1, 0, 2), (1, 2, 0)), (2, 1, 0))
        self.assertEqual(inverse(EMPTY, Z(4), (), 4, 4, (1, 2, 3, 0)), (3, 0, 1, 2))
        self.assertEqual(identity(EMPTY, Z(4), (), 3), (0, 1, 2))
        self.assertEqual(act(SIZE, Z(4), (3,), (3,), TURN, 4), 4)
        self.assertEqual(act_arrow(SIZE, Z(4), (3,), (3,), TURN, (2, 2), (1, 0)), (1, 0))

    def test_of(self):
        kind = of(3, N("n"))
        self.assertEqual(objects(SIZE, kind, (0,)), [])
        self.assertEqual(objects(SIZE, kind, (3,)), [0, 1, 2])
        self.assertEqual(arrows(SIZE, kind, (3,), 1, 1), [()])
        self.assertEqual(arrows(SIZE, kind, (3,), 1, 2), [])
        self.assertEqual([act(SIZE, kind, (3,), (3,), TURN, k) for k in range(3)], [1, 2, 0])
        self.assertEqual(act_arrow(SIZE, kind, (3,), (3,), TURN, (1, 1), ()), ())


class PairsTest(unittest.TestCase):

    def test_points_of_sizes(self):
        self.assertEqual(objects(EMPTY, POINTED, ()), [(1, 0), (2, 0), (2, 1)])
        self.assertEqual(arrows(EMPTY, POINTED, (), (2, 0), (2, 1)), [((1, 0), ())])
        self.assertEqual(arrows(EMPTY, POINTED, (), (2, 1), (2, 1)), [((0, 1), ())])
        self.assertEqual(arrows(EMPTY, POINTED, (), (1, 0), (2, 1)), [])
        self.assertEqual(compose(EMPTY, POINTED, (), ((2, 0), (2, 1), (2, 0)), ((1, 0), ()), ((1, 0), ())),
                         ((0, 1), ()))
        self.assertEqual(inverse(EMPTY, POINTED, (), (2, 0), (2, 1), ((1, 0), ())), ((1, 0), ()))
        self.assertEqual(identity(EMPTY, POINTED, (), (1, 0)), ((0,), ()))

    def test_second_parts_with_arrows(self):
        here = (2, ((2, 1), ((0, 1), (0,))))
        there = (2, ((1, 2), ((0,), (0, 1))))
        swap = (1, 0)
        self.assertEqual(arrows(EMPTY, COUNTED, (), here, there),
                         [(swap, ((0,), (0, 1))), (swap, ((0,), (1, 0)))])
        ends = (here, there, here)
        first = (swap, ((0,), (1, 0)))
        self.assertEqual(compose(EMPTY, COUNTED, (), ends, first, (swap, ((1, 0), (0,)))), ((0, 1), ((0, 1), (0,))))
        self.assertEqual(compose(EMPTY, COUNTED, (), ends, first, (swap, ((0, 1), (0,)))), ((0, 1), ((1, 0), (0,))))
        self.assertEqual(inverse(EMPTY, COUNTED, (), here, there, first), (swap, ((1, 0), (0,))))
        self.assertEqual(identity(EMPTY, COUNTED, (), there), ((0, 1), ((0,), (0, 1))))

    def test_action(self):
        kind = ("pairs", "k", of(3, N("n")), of(3, N("n")))
        self.assertEqual(act(SIZE, kind, (3,), (3,), TURN, (0, 2)), (1, 0))
        self.assertEqual(act_arrow(SIZE, kind, (3,), (3,), TURN, ((0, 2), (0, 2)), ((), ())), ((), ()))

    def test_nothing(self):
        self.assertEqual(objects(EMPTY, ("pairs", "k", S(3), S(0)), ()), [])
        self.assertEqual(objects(EMPTY, ("pairs", "k", S(0), S(3)), ()), [])


class MapsTest(unittest.TestCase):

    def test_from_sets(self):
        self.assertEqual(objects(EMPTY, ("maps", "k", S(0), S(0)), ()), [((), ())])
        self.assertEqual(objects(EMPTY, ("maps", "k", S(1), S(0)), ()), [])
        self.assertEqual(objects(EMPTY, ("maps", "k", S(2), S(2)), ()),
                         [((a, b), ((), ())) for a in (0, 1) for b in (0, 1)])

    def test_to_sizes(self):
        kind = ("maps", "k", S(2), Z(2))
        found = objects(EMPTY, kind, ())
        self.assertEqual(found, [((a, b), (tuple(range(a)), tuple(range(b)))) for a in range(3) for b in range(3)])
        self.assertEqual(arrows(EMPTY, kind, (), found[5], found[5]), [((0,), (0, 1)), ((0,), (1, 0))])
        self.assertEqual(arrows(EMPTY, kind, (), found[5], found[7]), [])
        top = found[8]
        self.assertEqual(compose(EMPTY, kind, (), (top, top, top), ((1, 0), (0, 1)), ((1, 0), (1, 0))),
                         ((0, 1), (1, 0)))
        self.assertEqual(inverse(EMPTY, kind, (), top, top, ((1, 0), (0, 1))), ((1, 0), (0, 1)))
        self.assertEqual(identity(EMPTY, kind, (), found[5]), ((0,), (0, 1)))

    def test_from_sizes_to_sets(self):
        self.assertEqual(objects(EMPTY, ("maps", "k", Z(2), S(2)), ()),
                         [((a, b, c), ((), (), (), ())) for a in (0, 1) for b in (0, 1) for c in (0, 1)])

    def test_from_sizes_to_sizes(self):
        kind = ("maps", "k", Z(2), Z(2))
        found = objects(EMPTY, kind, ())
        tails = [(0, ()), (1, (0,)), (2, (0, 1)), (2, (1, 0))]
        rest = [(), (0,), (0, 1)]
        self.assertEqual(found, [((a, b, c), (rest[a], rest[b], rest[c], u))
                                 for a in range(3) for b in range(3) for c, u in tails])
        keeps, turns = found[2], found[3]
        self.assertEqual(keeps, ((0, 0, 2), ((), (), (0, 1), (0, 1))))
        self.assertEqual(turns, ((0, 0, 2), ((), (), (0, 1), (1, 0))))
        self.assertEqual(arrows(EMPTY, kind, (), keeps, turns), [])
        self.assertEqual(arrows(EMPTY, kind, (), turns, turns), [((), (), (0, 1)), ((), (), (1, 0))])

    def test_values_that_hang_on_the_name(self):
        self.assertEqual(objects(EMPTY, ("maps", "k", Z(2), of(2, N("k"))), ()), [])
        kind = ("maps", "k", Z(2), ("maps", "q", of(2, N("k")), of(2, N("k"))))
        links = ((), ((),), ((), ()), ((), ()))
        ahead = (((), ()), ((0,), ((),)))
        self.assertEqual(objects(EMPTY, kind, ()), [(ahead + (((0, 1), ((), ())),), links),
                                                    (ahead + (((1, 0), ((), ())),), links)])

    def test_arrows_that_hang_on_arrows(self):
        # A point that goes along with its size: the arrows of the base move the values.
        kind = ("maps", "p", POINTED, ("at", "k", Z(2), ("first", "k", Z(2), of(2, N("k")), N("p")), of(2, N("k"))))
        self.assertEqual(objects(EMPTY, kind, ()), [((0, 0, 1), ((),) * 5), ((0, 1, 0), ((),) * 5)])

    def test_action(self):
        kind = ("maps", "k", of(3, N("n")), S(2))
        self.assertEqual(act(SIZE, kind, (3,), (3,), TURN, ((0, 1, 1), ((), (), ()))), ((1, 0, 1), ((), (), ())))
        self.assertEqual(act(SIZE, ("maps", "k", S(2), of(3, N("n"))), (3,), (3,), TURN, ((0, 1), ((), ()))),
                         ((1, 2), ((), ())))

    def test_action_on_arrows(self):
        kind = ("maps", "q", of(2, N("n")), Z(2))
        thing = ((2, 1), ((0, 1), (0,)))
        self.assertEqual(act(SIZE2, kind, (2,), (2,), SWAP, thing), ((1, 2), ((0,), (0, 1))))
        self.assertEqual(act_arrow(SIZE2, kind, (2,), (2,), SWAP, (thing, thing), ((1, 0), (0,))), ((0,), (1, 0)))


SIZE2 = (("n", Z(2)),)


class WaysTest(unittest.TestCase):

    def test_ways_of_sizes(self):
        self.assertEqual(objects(EMPTY, ("ways", Z(3), Q(3, 2), Q(3, 2)), ()), [(0, 1), (1, 0)])
        self.assertEqual(objects(EMPTY, ("ways", Z(3), Q(3, 2), Q(3, 3)), ()), [])
        self.assertEqual(arrows(EMPTY, ("ways", Z(3), Q(3, 2), Q(3, 2)), (), (0, 1), (1, 0)), [])
        self.assertEqual(arrows(EMPTY, ("ways", Z(3), Q(3, 2), Q(3, 2)), (), (1, 0), (1, 0)), [()])

    def test_the_action_goes_round(self):
        kind = ("ways", Z(3), N("n"), N("n"))
        self.assertEqual(len(objects(SIZE, kind, (3,))), 6)
        self.assertEqual(act(SIZE, kind, (3,), (3,), TURN, (1, 0, 2)), (0, 2, 1))
        kind = ("ways", Z(2), N("n"), N("m"))
        self.assertEqual(act(TWO, kind, (2, 2), (2, 2), ((1, 0), (0, 1)), (0, 1)), (1, 0))
        self.assertEqual(act(TWO, kind, (2, 2), (2, 2), ((1, 0), (1, 0)), (0, 1)), (0, 1))
        half = ("ways", Z(3), N("n"), Q(3, 3))
        self.assertEqual(act(SIZE, half, (3,), (3,), TURN, (0, 1, 2)), (2, 0, 1))
        half = ("ways", Z(3), Q(3, 3), N("n"))
        self.assertEqual(act(SIZE, half, (3,), (3,), TURN, (0, 1, 2)), (1, 2, 0))

    def test_ways_of_types_with_arrows(self):
        kind = ("ways", ("maps", "k", S(2), Z(2)), const("k", S(2), Q(2, 2)), const("k", S(2), Q(2, 2)))
        self.assertEqual(objects(EMPTY, kind, ()), [(u, v) for u in ((0, 1), (1, 0)) for v in ((0, 1), (1, 0))])
        self.assertEqual(objects(WAY, ("ways", ("ways", Z(2), N("n"), N("m")), N("w"), N("w")), (2, 2, (1, 0))), [()])


class EitherTest(unittest.TestCase):
    kind = ("either", of(3, N("n")), Z(2))

    def test_objects_and_arrows(self):
        self.assertEqual(objects(SIZE, self.kind, (2,)), [(0, 0), (0, 1), (1, 0), (1, 1), (1, 2)])
        self.assertEqual(arrows(SIZE, self.kind, (2,), (0, 1), (0, 1)), [()])
        self.assertEqual(arrows(SIZE, self.kind, (2,), (1, 2), (1, 2)), [(0, 1), (1, 0)])
        self.assertEqual(arrows(SIZE, self.kind, (2,), (0, 1), (1, 1)), [])
        self.assertEqual(compose(SIZE, self.kind, (2,), ((1, 2),) * 3, (1, 0), (1, 0)), (0, 1))
        self.assertEqual(inverse(SIZE, self.kind, (2,), (1, 2), (1, 2), (1, 0)), (1, 0))
        self.assertEqual(identity(SIZE, self.kind, (2,), (1, 2)), (0, 1))

    def test_action(self):
        self.assertEqual(act(SIZE, self.kind, (3,), (3,), TURN, (0, 2)), (0, 0))
        self.assertEqual(act(SIZE, self.kind, (3,), (3,), TURN, (1, 2)), (1, 2))
        self.assertEqual(act_arrow(SIZE, self.kind, (3,), (3,), TURN, ((1, 2), (1, 2)), (1, 0)), (1, 0))


class ClassesTest(unittest.TestCase):

    def test_least_objects(self):
        self.assertEqual(objects(EMPTY, ("classes", Z(3)), ()), [0, 1, 2, 3])
        self.assertEqual(objects(EMPTY, ("classes", POINTED), ()), [(1, 0), (2, 0)])
        self.assertEqual(arrows(EMPTY, ("classes", POINTED), (), (2, 0), (2, 0)), [()])

    def test_action(self):
        self.assertEqual(act(SIZE, ("classes", of(3, N("n"))), (3,), (3,), TURN, 1), 2)
        # Among the points of a size with a mark, the unmarked ones are one class; its least one may change.
        marked = ("pairs", "k", Z(2), ("ways", Z(2), N("k"), N("n")))
        self.assertEqual(objects(SIZE2, marked, (2,)), [(2, (0, 1)), (2, (1, 0))])
        self.assertEqual(objects(SIZE2, ("classes", marked), (2,)), [(2, (0, 1))])
        self.assertEqual(act(SIZE2, marked, (2,), (2,), SWAP, (2, (0, 1))), (2, (1, 0)))
        self.assertEqual(act(SIZE2, ("classes", marked), (2,), (2,), SWAP, (2, (0, 1))), (2, (0, 1)))


class AtTest(unittest.TestCase):

    def test_at_a_name(self):
        kind = ("at", "k", Z(3), N("n"), of(3, N("k")))
        self.assertEqual(objects(SIZE, kind, (2,)), [0, 1])
        self.assertEqual(act(SIZE, kind, (3,), (3,), TURN, 2), 0)

    def test_at_a_told_size(self):
        kind = ("at", "k", Z(3), Q(3, 2), of(3, N("k")))
        self.assertEqual(objects(SIZE, kind, (0,)), [0, 1])
        self.assertEqual(act(SIZE, kind, (3,), (3,), TURN, 1), 1)

    def test_at_a_told_point(self):
        kind = ("at", "k", S(3), P(3, 2), ("ways", S(3), N("k"), P(3, 2)))
        self.assertEqual(objects(EMPTY, kind, ()), [()])
        kind = ("at", "k", S(3), P(3, 1), ("ways", S(3), N("k"), P(3, 2)))
        self.assertEqual(objects(EMPTY, kind, ()), [])

    def test_at_a_point_that_moves(self):
        kind = ("at", "q", of(3, N("n")), N("p"), ("pairs", "r", of(3, N("n")), ("ways", of(3, N("n")), N("q"), N("r"))))
        self.assertEqual(objects(POINT, kind, (3, 1)), [(1, ())])
        self.assertEqual(act(POINT, kind, (3, 1), (3, 2), ((1, 2, 0), ()), (1, ())), (2, ()))

    def test_arrows(self):
        kind = ("at", "k", Z(2), N("n"), ("either", of(2, N("k")), Z(2)))
        self.assertEqual(arrows(SIZE2, kind, (1,), (1, 2), (1, 2)), [(0, 1), (1, 0)])
        self.assertEqual(compose(SIZE2, kind, (1,), ((1, 2),) * 3, (1, 0), (1, 0)), (0, 1))
        self.assertEqual(inverse(SIZE2, kind, (1,), (1, 2), (1, 2), (1, 0)), (1, 0))
        self.assertEqual(identity(SIZE2, kind, (1,), (0, 0)), ())
        self.assertEqual(act_arrow(SIZE2, kind, (2,), (2,), SWAP, ((1, 2), (1, 2)), (1, 0)), (1, 0))


class AllTypesTest(unittest.TestCase):

    def test_against_the_slow_reading(self):
        for context, kind in TYPES:
            with self.subTest(context=context, kind=kind):
                compare_type(self, context, kind)

    def test_family_of_maps(self):
        kind = ("maps", "q", of(2, N("n")), of(2, ("app", "r", of(2, N("n")), Z(2), N("f"), N("q"))))
        place = (2, ((2, 1), ((0, 1), (0,))))
        self.assertEqual(objects(FAMILY, kind, place), [((0, 0), ((), ())), ((1, 0), ((), ()))])


if __name__ == "__main__":
    unittest.main()
