"""Equal types (point 11) and flat types (point 12)."""

import unittest

import plain
from isthmus.types import arrows, equal_types, is_flat, objects
from short import EMPTY, FAMILY, N, NONE, P, POINT, Q, S, SIZE, TWO, TYPES, WAY, Z, of


class EqualTest(unittest.TestCase):

    def equal(self, context, first, second):
        self.assertIs(equal_types(context, first, second), True)
        self.assertIs(equal_types(context, second, first), True)

    def unequal(self, context, first, second):
        self.assertIs(equal_types(context, first, second), False)
        self.assertIs(equal_types(context, second, first), False)

    def test_bound_names(self):
        self.equal(EMPTY, ("pairs", "k", Z(2), of(2, N("k"))), ("pairs", "mm", Z(2), of(2, N("mm"))))
        self.equal(EMPTY, ("pairs", "k", Z(2), ("maps", "q", of(2, N("k")), of(2, N("k")))),
                   ("pairs", "q", Z(2), ("maps", "k", of(2, N("q")), of(2, N("q")))))
        self.unequal(EMPTY, ("pairs", "k", Z(1), ("pairs", "q", Z(2), of(1, N("k")))),
                     ("pairs", "k", Z(2), ("pairs", "q", Z(1), of(1, N("q")))))
        self.unequal(TWO, ("pairs", "k", Z(2), of(2, N("n"))), ("pairs", "k", Z(2), of(2, N("k"))))

    def test_a_type_at_a_term(self):
        self.equal(SIZE, ("at", "k", Z(3), N("n"), of(3, N("k"))), of(3, N("n")))
        self.equal(SIZE, ("at", "k", Z(3), N("n"), ("maps", "q", of(3, N("k")), of(3, N("k")))),
                   ("maps", "r", of(3, N("n")), of(3, N("n"))))
        self.equal(SIZE, ("at", "k", Z(3), N("n"), Z(2)), Z(2))
        self.unequal(SIZE, ("at", "k", Z(3), Q(3, 2), of(3, N("k"))), of(3, N("n")))

    def test_a_set_and_the_points_of_a_told_size(self):
        for n in range(5):
            self.equal(SIZE, S(n), of(4, Q(4, n)))
        self.unequal(SIZE, S(3), of(4, Q(4, 2)))
        self.equal(EMPTY, of(2, Q(2, 2)), of(4, Q(4, 2)))
        self.equal(EMPTY, of(3, ("code", 3, S(2))), S(2))

    def test_classes_of_a_discrete_type(self):
        self.equal(SIZE, ("classes", of(3, N("n"))), of(3, N("n")))
        self.equal(EMPTY, ("classes", Z(1)), S(2))
        self.equal(SIZE, ("classes", ("ways", Z(3), N("n"), N("n"))), ("ways", Z(3), N("n"), N("n")))
        self.unequal(EMPTY, ("classes", Z(2)), Z(2))

    def test_other_arrows(self):
        self.unequal(EMPTY, Z(1), S(2))
        self.unequal(EMPTY, Z(2), S(3))
        self.equal(EMPTY, Z(2), Z(2))
        self.unequal(EMPTY, Z(2), Z(3))
        self.unequal(EMPTY, S(1), ("pairs", "k", S(1), S(1)))

    def test_other_sums_and_pairs(self):
        self.unequal(EMPTY, ("either", S(1), S(2)), ("either", S(2), S(1)))
        self.equal(EMPTY, ("either", S(2), of(2, Q(2, 1))), ("either", of(4, Q(4, 2)), S(1)))
        self.equal(EMPTY, ("pairs", "k", S(2), S(0)), S(0))
        self.equal(EMPTY, ("maps", "k", S(1), S(0)), ("either", S(0), S(0)))
        self.unequal(EMPTY, ("maps", "k", S(0), S(0)), ("maps", "k", S(1), S(1)))
        self.equal(EMPTY, ("maps", "k", S(0), S(0)), ("maps", "k", of(1, Q(1, 0)), Z(2)))

    def test_same_arrows_with_other_composites(self):
        # The size 2 alone: one object, two arrows.
        two = ("pairs", "k", Z(2), ("ways", S(2), ("any", ("ways", Z(2), N("k"), Q(2, 2))), P(2, 1)))
        points = of(2, ("first",) + two[1:] + (N("b"),))
        turned = ("pairs", "b", two, ("maps", "q", points, two))
        stands = ("pairs", "b", two, ("maps", "q", S(2), two))
        self.assertEqual(objects(EMPTY, turned, ()), objects(EMPTY, stands, ()))
        thing = objects(EMPTY, turned, ())[0]
        found = arrows(EMPTY, turned, (), thing, thing)
        self.assertEqual(len(found), 8)
        self.assertEqual(found, arrows(EMPTY, stands, (), thing, thing))
        # In the one the points are exchanged along an arrow of the first part, in the other one they are not.
        self.unequal(EMPTY, turned, stands)
        self.equal(EMPTY, turned, ("pairs", "c", two, ("at", "b", two, N("c"), ("maps", "q", points, two))))

    def test_codes_of_points(self):
        self.equal(EMPTY, ("pairs", "k", Z(2), ("maps", "q", of(2, N("k")), Z(2))),
                   ("pairs", "k", Z(2), ("at", "m", Z(2), ("code", 2, of(2, N("k"))), ("maps", "q", of(2, N("m")), Z(2)))))
        self.equal(EMPTY, ("pairs", "k", Z(3), ("ways", Z(3), N("k"), N("k"))),
                   ("pairs", "k", Z(3), ("ways", Z(3), N("k"), ("code", 3, of(3, N("k"))))))

    def test_as_many_objects_but_another_action(self):
        two = (("n", Z(2)), ("v", ("ways", Z(2), N("n"), Q(2, 2))))
        # Wherever v is, n is 2, but its points are exchanged along some steps.
        self.unequal(two, of(2, N("n")), S(2))
        self.equal(two, of(2, Q(2, 2)), S(2))
        self.unequal(two, ("ways", Z(2), N("n"), Q(2, 2)), ("ways", Z(2), N("n"), N("n")))
        self.unequal(two, ("maps", "k", of(2, N("n")), S(2)), ("maps", "k", S(2), S(2)))
        self.unequal(two, ("pairs", "k", of(2, N("n")), Z(1)), ("pairs", "k", S(2), Z(1)))

    def test_another_action_on_arrows_alone(self):
        context = (("n", Z(2)), ("v", ("ways", Z(2), N("n"), Q(2, 2))))
        there = ("maps", "k", of(2, N("n")), ("at", "c", Z(2), Q(2, 2), Z(2)))
        here = ("maps", "k", S(2), Z(2))
        self.unequal(context, there, here)

    def test_a_difference_at_one_place_alone(self):
        context = (("a", S(3)),)
        last = ("any", ("ways", S(3), N("a"), P(3, 2)))
        kind = ("case", 2, "k", Z(4), last, (Q(4, 1), Q(4, 2)))
        self.unequal(context, of(4, kind), S(1))
        self.equal(context + (("w", of(1, ("case", 2, "k", Z(1), last, (Q(1, 1), Q(1, 0))))),), of(4, kind), S(1))

    def test_a_difference_along_one_step_alone(self):
        context = (("n", Z(2)),)
        # One object if n is 1 or 2, and another one if it is 2: as many as n, but no step moves them.
        some = ("ways", S(2), ("any", of(2, N("n"))), P(2, 1))
        more = ("ways", S(2), ("any", ("ways", Z(2), N("n"), Q(2, 2))), P(2, 1))
        still = of(2, ("code", 2, ("either", some, more)))
        self.unequal(context, of(2, N("n")), still)
        self.equal(context + (("v", ("ways", Z(2), N("n"), Q(2, 1))),), of(2, N("n")), still)
        self.unequal(context + (("v", ("ways", Z(2), N("n"), Q(2, 2))),), of(2, N("n")), still)

    def test_other_words_for_one_action(self):
        context = (("n", Z(2)),)
        self.equal(context, ("ways", Z(2), N("n"), N("n")), ("ways", Z(2), N("n"), ("code", 2, of(2, N("n")))))
        self.equal(context, ("at", "m", Z(2), N("n"), ("classes", of(2, N("m")))), of(2, N("n")))

    def test_nothing_made_of_different_things(self):
        context = (("n", Z(2)),)
        two = ("maps", "q", of(2, N("n")), Z(1))
        # At each place there is nothing; what it would consist of has other objects and other steps.
        self.equal(context, ("pairs", "k", of(2, N("n")), S(0)), ("pairs", "k", two, S(0)))
        self.equal(context, ("pairs", "k", two, S(0)), ("pairs", "k", ("pairs", "r", Z(2), of(2, N("n"))), S(0)))
        maps = ("maps", "k", S(1), ("pairs", "r", of(2, N("n")), S(0)))
        self.equal(context, maps, ("maps", "k", S(1), ("pairs", "r", two, S(0))))
        self.equal(context, maps, ("maps", "k", ("maps", "r", two, Z(1)), S(0)))

    def test_context_without_places(self):
        self.equal(NONE, S(1), S(2))
        self.equal(NONE, Z(4), of(2, N("n")))

    def test_the_context_counts(self):
        context = (("n", Z(2)), ("p", of(2, N("n"))), ("q", of(2, N("n"))))
        one = ("ways", of(2, N("n")), N("p"), N("q"))
        two = ("ways", of(2, N("n")), N("q"), N("p"))
        self.equal(context, one, two)
        always = ("ways", of(2, N("n")), N("p"), N("p"))
        self.unequal(context, one, always)
        self.equal(context + (("e", one),), one, always)

    def test_against_the_slow_reading(self):
        for context in (EMPTY, SIZE, TWO, WAY, FAMILY, POINT):
            kinds = [kind for there, kind in TYPES if there == context]
            for first in kinds:
                for second in kinds:
                    with self.subTest(context=context, first=first, second=second):
                        self.assertEqual(equal_types(context, first, second), plain.equal(context, first, second))


class FlatTest(unittest.TestCase):

    def test_everywhere(self):
        for kind in (S(4), Z(0), Z(1), of(3, N("n")), ("ways", Z(3), N("n"), N("n")), ("classes", Z(4)),
                     ("pairs", "k", S(2), of(3, N("n"))), ("either", S(1), Z(1)), ("maps", "k", Z(2), S(2)),
                     ("at", "k", Z(3), N("n"), of(3, N("k"))), ("pairs", "k", Z(2), S(0)),
                     ("maps", "k", Z(2), of(2, N("k"))), ("maps", "k", S(0), Z(4))):
            self.assertIs(is_flat(SIZE, kind), True, kind)

    def test_nowhere(self):
        for kind in (Z(2), ("either", S(2), Z(2)), ("pairs", "k", Z(2), S(1)), ("maps", "k", S(1), Z(2)),
                     ("pairs", "k", Z(3), of(3, N("k")))):
            self.assertIs(is_flat(SIZE, kind), False, kind)

    def test_arrows_between_different_objects(self):
        self.assertIs(is_flat(EMPTY, ("pairs", "k", Z(2), of(2, N("k")))), False)
        marked = ("pairs", "k", Z(2), ("ways", Z(2), N("k"), Q(2, 1)))
        self.assertIs(is_flat(EMPTY, marked), True)

    def test_everywhere_but_at_one_place(self):
        context = (("n", Z(2)),)
        # Two maps on n points to sizes up to 2; on no point there is one map, and no arrow but its identity.
        self.assertIs(is_flat((("n", Z(0)),), ("maps", "k", of(0, N("n")), Z(2))), True)
        self.assertIs(is_flat(context, ("pairs", "k", Z(2), ("ways", Z(2), N("k"), N("n")))), False)
        only_two = ("pairs", "p", of(2, N("n")), ("ways", of(2, N("n")), N("p"), N("p")))
        self.assertIs(is_flat(context, only_two), True)
        some = ("pairs", "w", ("ways", Z(2), N("n"), Q(2, 2)), Z(2))
        self.assertIs(is_flat(context, some), False)
        self.assertIs(is_flat((("n", Z(1)),), ("pairs", "w", ("ways", Z(1), N("n"), Q(1, 0)), Z(2))), False)
        self.assertIs(is_flat((("n", Z(1)), ("v", ("ways", Z(1), N("n"), Q(1, 1)))),
                              ("pairs", "w", ("ways", Z(1), N("n"), Q(1, 0)), Z(2))), True)

    def test_context_without_places(self):
        self.assertIs(is_flat(NONE, Z(4)), True)
        self.assertIs(is_flat((("v", S(0)),), ("pairs", "k", Z(2), S(1))), True)


if __name__ == "__main__":
    unittest.main()
