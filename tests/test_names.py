"""Names (point 6): what binds, what hides, and types that are met in longer contexts."""

import unittest

from isthmus.contexts import places, steps
from isthmus.errors import BadName
from isthmus.types import act, check_type, equal_types, objects
from short import EMPTY, N, P, Q, S, Z, of


def paired(x):
    return ("pairs", x, Z(2), of(2, N(x)))


class RightNamesTest(unittest.TestCase):

    def test_one_name_bound_twice_side_by_side(self):
        check_type(EMPTY, ("either", paired("k"), paired("k")))
        check_type(EMPTY, ("maps", "x", paired("k"), S(1)))
        check_type(EMPTY, ("pairs", "k", paired("k"), S(1)))

    def test_a_type_may_bind_a_later_name(self):
        context = (("y", paired("x")), ("x", S(2)))
        self.assertEqual(len(places(context)), 6)
        self.assertEqual(steps(context, ((2, 0), 1), ((2, 1), 1)), [(((1, 0), ()), ())])

    def test_all_names_of_a_split_may_be_one(self):
        E = ("either", S(1), S(2))
        term = ("split", "x", S(1), S(2), Z(2), "x", Q(2, 1), "x", ("code", 2, ("ways", S(2), N("x"), P(2, 1))), N("e"))
        context = (("e", E),)
        self.assertEqual([len(objects(context, of(2, term), (e,))) for e in ((0, 0), (1, 0), (1, 1))], [1, 0, 1])


class MetTypesTest(unittest.TestCase):
    """The type of a name is met behind names that it binds itself."""

    context = (("n", Z(2)), ("y", ("maps", "x", of(2, N("n")), S(2))), ("x", S(2)))

    def test_type_of_a_name_behind_a_bound_one(self):
        # The parts of this type are terms of the type of y, which is met where x is a name of the context.
        kind = ("ways", ("maps", "q", of(2, N("n")), S(2)), N("y"), N("y"))
        for place in places(self.context):
            self.assertEqual(objects(self.context, kind, place), [((),) * place[0]])

    def test_the_inner_name_counts(self):
        term = ("app", "q", of(2, N("n")), S(2), N("y"), N("p"))
        context = self.context + (("p", of(2, N("n"))),)
        kind = ("ways", S(2), term, N("x"))
        place = (2, ((0, 1), ((), ())), 1)
        self.assertEqual(objects(context, kind, place + (1,)), [()])
        self.assertEqual(objects(context, kind, place + (0,)), [])

    def test_met_in_between(self):
        # The name ahead of x is opened where x and another name follow it.
        context = (("a", Z(2)), ("x", Z(2)), ("y", S(2)))
        term = ("open", "a", Z(2), Z(2), ("fun", "x", Z(2), Z(2), ("code", 2, of(2, N("x")))))
        self.assertEqual([len(objects(context, of(2, term), place)) for place in ((2, 1, 0), (1, 2, 1))], [2, 1])
        self.assertEqual(act(context, of(2, term), (2, 2, 0), (2, 2, 0), ((1, 0), (0, 1), ()), 0), 1)
        self.assertEqual(act(context, of(2, term), (2, 2, 0), (2, 2, 0), ((0, 1), (1, 0), ()), 0), 0)

    def test_opened_map_may_bind_later_names(self):
        context = (("a", Z(2)), ("b", of(2, N("a"))))
        function = ("fun", "b", Z(2), Z(2), N("b"))
        self.assertEqual(len(objects(context, of(2, ("open", "a", Z(2), Z(2), function)), (2, 1))), 2)
        function = ("fun", "b", of(2, N("a")), Z(2), N("a"))
        self.assertEqual(len(objects(context, of(2, ("open", "b", of(2, N("a")), Z(2), function)), (2, 1))), 2)
        for later in ("a", "b"):
            with self.assertRaises(BadName):
                check_type(context, of(2, ("open", "a", Z(2), Z(2), ("fun", "c", Z(2), Z(2), N(later)))))

    def test_a_met_type_is_compared_where_its_name_stands_for_something_else(self):
        context = (("y", paired("x")), ("x", S(2)), ("z", of(2, Q(2, 1))))
        other = ("at", "m", Z(2), N("k"), of(2, N("m")))
        term = ("first", "k", Z(2), other, N("y"))
        for place in places(context):
            self.assertEqual(len(objects(context, of(2, term), place)), place[0][0])
        self.assertEqual(act(context, of(2, term), ((2, 0), 1, 0), ((2, 1), 1, 0), (((1, 0), ()), (), ()), 0), 1)

    def test_given_puts_a_met_type_under_its_own_name(self):
        context = (("y", paired("x")),)
        term = ("first", "k", Z(2), of(2, N("k")), ("given", "x", S(1), P(1, 0), N("y")))
        self.assertEqual([len(objects(context, of(2, term), place)) for place in places(context)], [1, 2, 2])
        self.assertTrue(equal_types(context, of(2, term), of(2, ("first", "k", Z(2), of(2, N("k")), N("y")))))

    def test_a_target_type_that_binds_the_name_of_the_way(self):
        C = ("pairs", "q", Z(2), of(2, N("q")))
        context = (("n", Z(2)),)
        body = ("pair", "q", Z(2), of(2, N("q")), Q(2, 2), P(2, 0))
        led = ("led", "x", Z(2), C, body, N("n"), N("n"), ("stay", Z(2), N("n")))
        kind = ("ways", ("ways", C, body, body), led, ("stay", C, body))
        self.assertEqual(objects(context, kind, (2,)), [()])

    def test_one_name_of_two_types_in_one_run(self):
        # The same term, with y a point in the one part and a size in the other one.
        body = ("given", "x", S(1), P(1, 0), N("y"))

        def family(kind):
            function = ("fun", "k", S(1), kind, body)
            return ("pairs", "y", kind, ("ways", ("maps", "k", S(1), kind), function, function))

        self.assertEqual(objects(EMPTY, ("either", family(S(3)), family(Z(2))), ()),
                         [(0, (k, ((),))) for k in range(3)]
                         + [(1, (0, ((),))), (1, (1, ((0,),))), (1, (2, ((0, 1),))), (1, (2, ((1, 0),)))])
        self.assertEqual(objects(EMPTY, ("either", family(Z(2)), family(S(3))), ()),
                         [(0, (0, ((),))), (0, (1, ((0,),))), (0, (2, ((0, 1),))), (0, (2, ((1, 0),)))]
                         + [(1, (k, ((),))) for k in range(3)])


if __name__ == "__main__":
    unittest.main()
