"""The errors of contexts and types: each by what is wrong, and which of them goes ahead of which."""

import unittest

from isthmus import errors
from isthmus.contexts import back_step, join_steps, places, stay_step, steps
from isthmus.errors import (BadForm, BadName, BadPlace, BadStep, IsthmusError, NotExchange, NotFlat, NotOnly, NotSmall,
                            WrongType)
from isthmus.types import (act, act_arrow, arrows, check_type, compose, equal_types, identity, inverse, is_flat,
                           objects)
from short import EMPTY, N, NONE, P, POINT, Q, S, SIZE, TWO, Z, of

POINTED = ("pairs", "k", Z(2), of(2, N("k")))


def shown(term):
    """A type that a term of any type in sizes up to 2 can stand in."""
    return of(2, term)


class ClassesTest(unittest.TestCase):

    def test_right_below_the_first(self):
        self.assertEqual(IsthmusError.__bases__, (ValueError,))
        names = ["BadForm", "BadName", "WrongType", "NotFlat", "NotSmall", "NotExchange", "NotOnly", "BadPlace",
                 "BadStep", "BadText", "TooLarge"]
        for name in names:
            self.assertEqual(getattr(errors, name).__bases__, (IsthmusError,))


class FormTest(unittest.TestCase):
    wrong_types = [
        (), ("set",), ("set", 1, 2), ("set", 5), ("set", -1), ("set", "a"), ("set", (1,)), ("sets", 1), (1, 2), "set",
        3, ("sizes", 5), ("sizes", -1), ("of", 2), ("of", 5, Q(2, 1)), ("of", 2, S(2)), ("of", 2, 1), ("of", Q(2, 1)),
        ("pairs", "k", S(1)), ("pairs", 1, S(1), S(1)), ("pairs", "", S(1), S(1)), ("pairs", "K", S(1), S(1)),
        ("pairs", "abcdefghi", S(1), S(1)), ("pairs", "k1", S(1), S(1)), ("pairs", "k", S(1), P(1, 0)),
        ("maps", "k", S(1), S(1), S(1)), ("maps", S(1), "k", S(1)), ("ways", S(1), P(1, 0)),
        ("ways", S(1), P(1, 0), S(1)), ("either", S(1)), ("classes",), ("classes", N("n")), ("at", "k", S(1), S(1), S(1)),
        ("name", "n"), ("point", 2, 0), (("set",), 1), (("set", 1),),
    ]
    wrong_terms = [
        (), ("name",), ("name", 1), ("name", "N"), ("name", "n", "n"), ("point", 2, 2), ("point", 0, 0),
        ("point", 2, -1), ("point", 5, 0), ("point", 2), ("size", 2, 3), ("size", 2, -1), ("size", 5, 1),
        ("case", 2, "k", Z(2), P(2, 0), (Q(2, 1),)), ("case", 1, "k", Z(2), P(1, 0), (Q(2, 1), Q(2, 1))),
        ("case", 1, "k", Z(2), P(1, 0), Q(2, 1)), ("case", 1, "k", Z(2), P(1, 0), (1,)),
        ("case", 0, "k", Z(2), N("n"), 0), ("code", 5, S(1)), ("code", S(1), 1), ("index", 1, S(1)), ("item", 1, S(1)),
        ("pair", "k", S(1), S(1), P(1, 0)), ("first", "k", S(1), N("n")), ("second", "k", S(1), S(1)),
        ("fun", "k", S(1), S(1)), ("app", "k", S(1), S(1), N("n")), ("open", 1, S(1), S(1), N("n")),
        ("open", "n", S(1), S(1)), ("stay", S(1)), ("back", S(1), P(1, 0), P(1, 0)), ("join", S(1), P(1, 0)),
        ("led", "k", S(1), S(1), P(1, 0)), ("carry", "k", S(1)), ("pairway", "k"), ("mapway", "k"),
        ("exchange", "k", 2, Q(2, 1), Q(2, 1), N("n")), ("exchange", 2, "k", Q(2, 1), Q(2, 1)), ("any",), ("any", 2),
        ("only", P(1, 0)), ("class", S(1)), ("eachclass", "k", S(1)), ("left", S(1), S(1)), ("right", S(1), P(1, 0)),
        ("split", "z", S(1), S(1), S(1), "x", P(1, 0), "y", P(1, 0)), ("given", "k", S(1), P(1, 0)), ("set", 2),
        ("unknown", 1), "n", 0,
    ]

    def test_types(self):
        for kind in self.wrong_types:
            with self.subTest(kind=kind):
                for outer in (kind, ("classes", kind), ("pairs", "r", S(1), ("either", S(1), kind)),
                              of(2, ("code", 2, ("maps", "r", kind, S(1))))):
                    self.assertRaises(BadForm, check_type, SIZE, outer)
                self.assertRaises(BadForm, places, (("a", S(1)), ("b", kind)))
                self.assertRaises(BadForm, objects, SIZE, kind, (0,))
                self.assertRaises(BadForm, equal_types, SIZE, S(1), kind)
                self.assertRaises(BadForm, is_flat, SIZE, kind)

    def test_terms(self):
        for term in self.wrong_terms:
            with self.subTest(term=term):
                for outer in (of(2, term), ("at", "r", S(1), term, S(1)), ("ways", Z(2), Q(2, 1), term),
                              of(2, ("case", 1, "r", Z(2), P(1, 0), (term,))),
                              of(2, ("given", "r", S(1), P(1, 0), ("code", 2, ("either", of(1, term), S(1)))))):
                    self.assertRaises(BadForm, check_type, SIZE, outer)

    def test_contexts(self):
        for context in ([], 0, "a", (0,), (("a",),), (("a", S(1), S(1)),), (("", S(1)),), (("A", S(1)),),
                        (("abcdefghi", S(1)),), (("a", S(5)),), (("a", P(1, 0)),), (("a", S(1)), ("b", ())),
                        ((1, S(1)),), (["a", S(1)],), ("a", S(1))):
            with self.subTest(context=context):
                self.assertRaises(BadForm, places, context)
                self.assertRaises(BadForm, check_type, context, S(1))
                self.assertRaises(BadForm, stay_step, context, ())


class NamesTest(unittest.TestCase):

    def test_not_in_the_context(self):
        for kind in (of(3, N("m")), ("pairs", "k", of(3, N("k")), S(1)), ("either", POINTED, of(2, N("k"))),
                     ("at", "k", Z(2), N("k"), S(1)), of(3, ("open", "m", Z(3), Z(3), N("n"))),
                     of(3, ("open", "n", Z(3), Z(3), ("fun", "k", Z(3), Z(3), N("n")))),
                     of(3, ("given", "k", Z(3), N("k"), N("k"))),
                     of(2, ("case", 1, "k", Z(2), P(1, 0), (("code", 2, ("ways", S(1), N("k"), P(1, 0))),)))):
            self.assertRaises(BadName, check_type, SIZE, kind)
        self.assertRaises(BadName, places, (("p", of(3, N("n"))), ("n", Z(3))))
        self.assertRaises(BadName, places, (("p", of(3, N("p"))),))

    def test_bound_against_the_rule(self):
        for kind in (("pairs", "n", S(1), S(1)), ("maps", "k", S(1), ("maps", "k", S(1), S(1))),
                     ("at", "n", S(1), P(1, 0), S(1)),
                     of(2, ("exchange", 2, "n", Q(2, 1), Q(2, 1), N("n"))),
                     ("pairs", "k", S(1), of(2, ("fun", "k", S(1), S(1), N("k")))),
                     of(2, ("split", "n", S(1), S(1), Z(2), "x", Q(2, 1), "y", Q(2, 1), ("left", S(1), S(1), P(1, 0)))),
                     of(2, ("split", "z", S(1), S(1), Z(2), "n", Q(2, 1), "y", Q(2, 1), ("left", S(1), S(1), P(1, 0)))),
                     of(2, ("split", "z", S(1), S(1), Z(2), "x", Q(2, 1), "n", Q(2, 1), ("left", S(1), S(1), P(1, 0))))):
            self.assertRaises(BadName, check_type, SIZE, kind)

    def test_twice_in_a_context(self):
        self.assertRaises(BadName, places, (("a", S(1)), ("a", S(1))))
        self.assertRaises(BadName, places, (("a", S(1)), ("b", S(1)), ("a", Z(1))))
        self.assertRaises(BadName, places, (("a", S(1)), ("b", ("pairs", "a", S(1), S(1)))))

    def test_even_without_places(self):
        self.assertRaises(BadName, check_type, NONE, of(2, N("m")))
        self.assertRaises(BadName, check_type, NONE, ("pairs", "v", S(1), S(1)))


SWAPPED = ("fun", "k", of(2, Q(2, 2)), of(2, Q(2, 2)), ("case", 2, "r", S(2), N("k"), (P(2, 1), P(2, 0))))


class TypesOfPartsTest(unittest.TestCase):
    """Each part that must be of some type, as one of another type."""

    wrong = [
        of(3, Q(2, 1)), of(3, P(3, 0)), of(2, N("n")), ("ways", S(2), P(2, 0), P(3, 0)), ("ways", S(2), Q(2, 0), P(2, 0)),
        ("ways", Z(3), N("n"), Q(2, 1)), ("at", "k", Z(2), N("n"), S(1)), ("pairs", "k", S(2), of(2, N("k"))),
        ("maps", "k", Z(2), of(3, N("k"))), ("classes", of(2, N("n"))), ("either", S(1), of(2, N("n"))),
        of(2, ("case", 2, "k", Z(2), P(3, 0), (Q(2, 1), Q(2, 1)))),
        of(2, ("case", 2, "k", Z(2), P(2, 0), (Q(2, 1), Q(3, 1)))),
        of(2, ("case", 2, "k", Z(3), P(2, 0), (Q(3, 1), Q(3, 1)))),
        of(2, ("code", 3, S(1))),
        ("ways", of(2, Q(2, 1)), ("index", 2, S(1), P(2, 0)), P(1, 0)),
        ("ways", S(2), ("item", 2, S(2), P(1, 0)), P(2, 0)),
        ("ways", S(2), ("item", 3, S(2), P(3, 2)), P(2, 0)),
        of(2, ("first", "k", Z(2), S(1), ("pair", "k", Z(2), S(1), Q(3, 1), P(1, 0)))),
        of(2, ("first", "k", Z(2), of(2, N("k")), ("pair", "k", Z(2), of(2, N("k")), Q(2, 1), P(2, 1)))),
        of(2, ("first", "k", Z(2), S(2), ("pair", "k", Z(2), S(1), Q(2, 1), P(1, 0)))),
        of(2, ("second", "k", S(1), Z(2), ("pair", "k", S(1), Z(1), P(1, 0), Q(1, 1)))),
        of(2, ("app", "k", S(1), Z(2), ("fun", "k", S(1), Z(2), Q(3, 1)), P(1, 0))),
        of(2, ("app", "k", S(1), Z(2), ("fun", "k", S(2), Z(2), Q(2, 1)), P(1, 0))),
        of(2, ("app", "k", S(1), Z(2), ("fun", "k", S(1), Z(2), Q(2, 1)), P(2, 0))),
        ("ways", ("ways", Z(2), Q(2, 1), Q(2, 1)), ("stay", Z(2), Q(2, 2)), ("stay", Z(2), Q(2, 1))),
        ("ways", S(1), ("stay", Z(2), N("n")), P(1, 0)),
        ("ways", ("ways", Z(3), Q(3, 1), Q(3, 2)), ("back", Z(3), Q(3, 1), Q(3, 2), ("stay", Z(3), Q(3, 1))), P(1, 0)),
        ("ways", S(1), ("join", Z(3), Q(3, 1), Q(3, 1), Q(3, 2), ("stay", Z(3), Q(3, 1)), ("stay", Z(3), Q(3, 1))),
         P(1, 0)),
        ("ways", S(1), ("led", "k", Z(2), Z(2), Q(3, 1), Q(2, 1), Q(2, 1), ("stay", Z(2), Q(2, 1))), P(1, 0)),
        ("ways", S(1), ("led", "k", Z(2), Z(2), N("k"), Q(2, 1), Q(2, 2), ("stay", Z(2), Q(2, 1))), P(1, 0)),
        of(2, ("carry", "k", S(1), Z(2), P(1, 0), P(1, 0), ("stay", S(1), P(1, 0)), Q(3, 1))),
        of(2, ("carry", "k", S(2), Z(2), P(2, 0), P(2, 1), ("stay", S(2), P(2, 0)), Q(2, 1))),
        ("ways", S(1), ("pairway", "k", Z(2), S(1), Q(2, 1), Q(2, 1), P(1, 0), P(1, 0)), P(1, 0)),
        ("ways", S(1), ("mapway", "k", S(1), Z(2), Q(2, 1), Q(2, 1), P(1, 0)), P(1, 0)),
        ("ways", S(1), ("mapway", "k", S(1), Z(2), ("fun", "k", S(1), Z(2), Q(2, 1)), ("fun", "k", S(1), Z(2), Q(2, 2)),
                        ("stay", Z(2), Q(2, 1))), P(1, 0)),
        ("ways", S(1), ("exchange", 2, "k", Q(2, 2), Q(2, 1), SWAPPED), P(1, 0)),
        ("ways", S(1), ("exchange", 2, "k", Q(3, 2), Q(2, 2), SWAPPED), P(1, 0)),
        ("ways", S(1), ("any", S(1)), P(2, 0)), ("ways", S(2), ("any", of(2, N("n"))), P(2, 0)),
        ("ways", S(2), ("only", S(1)), P(2, 0)),
        ("ways", S(2), ("class", S(1), P(1, 0)), P(2, 0)), ("ways", ("classes", S(1)), ("class", S(1), P(2, 0)), P(1, 0)),
        ("ways", S(2), ("eachclass", "k", Z(2), S(2), P(1, 0), ("class", Z(2), Q(2, 1))), P(2, 0)),
        ("ways", S(2), ("eachclass", "k", Z(2), S(2), P(2, 0), Q(2, 1)), P(2, 0)),
        ("ways", ("either", S(1), S(2)), ("left", S(1), S(2), P(2, 1)), ("right", S(1), S(2), P(2, 1))),
        ("ways", ("either", S(1), S(2)), ("left", S(2), S(1), P(2, 1)), ("right", S(1), S(2), P(2, 1))),
        of(2, ("split", "z", S(1), S(1), Z(2), "x", Q(2, 1), "y", Q(3, 1), ("left", S(1), S(1), P(1, 0)))),
        of(2, ("split", "z", S(1), S(1), Z(2), "x", Q(3, 1), "y", Q(2, 1), ("left", S(1), S(1), P(1, 0)))),
        of(2, ("split", "z", S(1), S(1), Z(2), "x", Q(2, 1), "y", Q(2, 1), P(1, 0))),
        of(2, ("given", "k", S(1), P(2, 0), Q(2, 1))), of(2, ("given", "k", S(1), P(1, 0), Q(3, 1))),
    ]

    def test_wrong(self):
        for kind in self.wrong:
            with self.subTest(kind=kind):
                self.assertRaises(WrongType, check_type, SIZE, kind)
                self.assertRaises(WrongType, check_type, SIZE, ("maps", "b", S(1), ("either", S(0), kind)))
                self.assertRaises(WrongType, places, SIZE + (("a", kind),))

    def test_without_places_all_types_are_equal(self):
        for kind in self.wrong:
            self.assertIsNone(check_type(SIZE + (("v", S(0)),), kind))

    def test_open(self):
        context = (("n", Z(2)),)
        for term in (("open", "n", Z(1), Z(2), ("fun", "k", Z(1), Z(2), Q(2, 1))),
                     ("open", "n", S(3), Z(2), ("fun", "k", S(3), Z(2), Q(2, 1))),
                     ("open", "n", Z(2), Z(2), ("fun", "k", Z(2), Z(1), Q(1, 1))),
                     ("open", "n", Z(2), Z(1), ("fun", "k", Z(2), Z(1), Q(1, 1))),
                     ("open", "n", Z(2), Z(2), Q(2, 1))):
            self.assertRaises(WrongType, check_type, context, of(2, term))
        # The first three are wrong in the part of the context ahead of n, which has a place in any case.
        self.assertRaises(WrongType, check_type, context + (("v", S(0)),),
                          of(2, ("open", "n", Z(1), Z(2), ("fun", "k", Z(1), Z(2), Q(2, 1)))))
        self.assertIsNone(check_type(context + (("v", S(0)),),
                                     of(2, ("open", "n", Z(2), Z(1), ("fun", "k", Z(2), Z(1), Q(1, 1))))))
        same = ("at", "k", S(1), P(1, 0), Z(2))
        self.assertIsNone(check_type(context, of(2, ("open", "n", same, Z(2), ("fun", "k", same, Z(2), Q(2, 1))))))

    def test_nearly_wrong(self):
        for kind in (of(3, ("code", 3, S(2))), ("ways", S(2), ("point", 2, 1), ("any", S(1))),
                     ("ways", of(4, Q(4, 3)), P(3, 2), P(3, 0)), ("ways", Z(1), Q(1, 0), Q(1, 1)),
                     ("pairs", "k", S(0), of(2, Q(3, 1))), ("pairs", "k", of(3, N("n")), ("ways", of(3, N("n")), N("k"), N("k"))),
                     ("maps", "k", ("ways", Z(3), N("n"), Q(3, 1)), ("ways", of(3, N("n")), P(1, 0), P(1, 0))),
                     ("either", POINTED, POINTED), ("set", 0), ("sizes", 0),
                     of(0, Q(0, 0)), of(2, ("case", 0, "k", Z(2), ("case", 0, "r", S(0), ("case", 0, "q", S(0), N("v"), ()), ()),
                                           ()))):
            context = SIZE if "v" not in str(kind) else NONE
            self.assertIsNone(check_type(context, kind), kind)


class OtherConditionsTest(unittest.TestCase):

    def test_not_flat(self):
        for kind in (of(3, ("code", 3, Z(2))), ("ways", Z(2), ("item", 3, Z(2), P(3, 0)), Q(2, 0)),
                     of(3, ("code", 3, POINTED)),
                     ("ways", of(3, Q(3, 3)), ("index", 3, Z(2), Q(2, 1)), P(3, 1)),
                     ("ways", Z(2), ("eachclass", "k", Z(2), Z(2), Q(2, 1), ("class", Z(2), Q(2, 1))), Q(2, 1)),
                     of(4, ("code", 4, ("maps", "k", ("ways", Z(3), N("n"), Q(3, 1)), Z(2))))):
            self.assertRaises(NotFlat, check_type, SIZE, kind)
        # Flat wherever n is not 1: there it is Z(2).
        somewhere = ("pairs", "k", ("ways", Z(3), N("n"), Q(3, 1)), Z(2))
        self.assertRaises(NotFlat, check_type, SIZE, of(4, ("code", 4, somewhere)))
        self.assertIsNone(check_type(SIZE + (("v", ("ways", Z(3), N("n"), Q(3, 2))),), of(4, ("code", 4, somewhere))))

    def test_not_small(self):
        for kind in (of(2, ("code", 2, S(3))), of(0, ("code", 0, S(1))), of(2, ("code", 2, of(3, N("n")))),
                     ("ways", S(3), ("item", 2, S(3), P(3, 2)), P(3, 0)),
                     ("ways", of(2, Q(2, 2)), ("index", 2, S(3), P(3, 1)), P(2, 1))):
            self.assertRaises(NotSmall, check_type, SIZE, kind)
        self.assertIsNone(check_type(SIZE, of(3, ("code", 3, of(3, N("n"))))))
        self.assertIsNone(check_type(SIZE + (("v", ("ways", Z(3), N("n"), Q(3, 2))),), of(2, ("code", 2, of(3, N("n"))))))

    def test_not_exchange(self):
        def kind(first, second, body):
            function = ("fun", "k", of(3, first), of(3, second), body)
            term = ("exchange", 3, "k", first, second, function)
            return ("ways", ("ways", Z(3), first, second), term, term)

        self.assertIsNone(check_type(SIZE, kind(N("n"), N("n"), N("k"))))
        self.assertRaises(NotExchange, check_type, SIZE, kind(Q(3, 2), Q(3, 2), P(2, 1)))
        self.assertRaises(NotExchange, check_type, SIZE, kind(Q(3, 1), Q(3, 2), P(2, 1)))
        self.assertRaises(NotExchange, check_type, SIZE, kind(Q(3, 2), Q(3, 1), P(1, 0)))
        self.assertIsNone(check_type(SIZE, kind(Q(3, 0), Q(3, 0), N("k"))))
        inside = ("v", ("ways", Z(3), N("n"), Q(3, 1)))
        self.assertIsNone(check_type(SIZE + (inside,), kind(N("n"), Q(3, 1), P(1, 0))))
        self.assertRaises(NotExchange, check_type, SIZE, kind(N("n"), Q(3, 1), P(1, 0)))

    def test_not_only(self):
        def kind(part):
            return ("ways", part, ("only", part), ("only", part))

        for part in (S(0), S(2), Z(1), of(3, N("n")), ("pairs", "k", Z(2), ("ways", Z(2), N("k"), Q(2, 2)))):
            self.assertRaises(NotOnly, check_type, SIZE, kind(part))
        one_object_two_arrows = ("pairs", "k", Z(2), ("ways", S(2), ("any", ("ways", Z(2), N("k"), Q(2, 2))), P(2, 1)))
        self.assertRaises(NotOnly, check_type, SIZE, kind(one_object_two_arrows))
        for part in (S(1), Z(0), ("ways", Z(3), Q(3, 1), Q(3, 1)), ("maps", "k", S(0), S(0))):
            self.assertIsNone(check_type(SIZE, kind(part)))
        self.assertIsNone(check_type((("n", Z(1)), ("p", of(1, N("n")))), kind(of(1, N("n")))))

    def test_none_of_them_without_places(self):
        for kind in (of(3, ("code", 3, Z(2))), of(1, ("code", 1, S(3))), ("ways", S(3), ("only", S(3)), ("only", S(3)))):
            self.assertIsNone(check_type(NONE, kind))


class PlaceTest(unittest.TestCase):

    def test_places(self):
        for place in ((), (4,), (-1,), ((),), (0, 0), 0):
            self.assertRaises(BadPlace, objects, SIZE, S(1), place)
            self.assertRaises(BadPlace, stay_step, SIZE, place)
            self.assertRaises(BadPlace, steps, SIZE, (0,), place)
            self.assertRaises(BadPlace, steps, SIZE, place, (0,))
            self.assertRaises(BadPlace, back_step, SIZE, (0,), place, ((),))
            self.assertRaises(BadPlace, join_steps, SIZE, ((0,), place, (0,)), ((),), ((),))
            self.assertRaises(BadPlace, act, SIZE, S(1), (0,), place, ((),), 0)
        self.assertRaises(BadPlace, objects, POINT, S(1), (1, 1))
        self.assertRaises(BadPlace, objects, POINT, S(1), (0, 0))
        self.assertRaises(BadPlace, objects, NONE, S(1), (0, 0))

    def test_objects(self):
        maps = ("maps", "k", Z(2), Z(2))
        right = ((0, 0, 2), ((), (), (0, 1), (1, 0)))
        self.assertEqual(identity(EMPTY, maps, (), right), ((), (), (0, 1)))
        wrong = [(S(2), 2), (S(2), -1), (S(2), (0,)), (Z(2), 3), (POINTED, 1), (POINTED, (1,)), (POINTED, (1, 1)),
                 (POINTED, (0, 0)), (POINTED, (3, 0)), (POINTED, (1, 0, 0)), (("either", S(1), S(2)), (0, 1)),
                 (("either", S(1), S(2)), (2, 0)), (("either", S(1), S(2)), 0), (("either", S(1), S(2)), ((), 0)),
                 (("classes", POINTED), (2, 1)), (("classes", POINTED), 2), (("ways", Z(2), Q(2, 2), Q(2, 2)), (0, 0)),
                 (("ways", Z(2), Q(2, 2), Q(2, 2)), ()), (maps, 0), (maps, ((0, 0, 2),)), (maps, ((0, 0), right[1])),
                 (maps, ((0, 0, 3), right[1])), (maps, ((0, 0, 2), ((), (), (0, 1)))), (maps, ((0, 0, 1), right[1])),
                 (maps, ((0, 0, 2), ((), (), (1, 0), (1, 0)))), (maps, ((0, 0, 2), ((), (), (0, 1), (0, 0)))),
                 (maps, (right[0], 0)), (maps, (0, right[1])), (maps, (right[0], right[1] + ((0, 1),)))]
        for kind, thing in wrong:
            with self.subTest(kind=kind, thing=thing):
                self.assertRaises(BadPlace, identity, EMPTY, kind, (), thing)
                self.assertRaises(BadPlace, arrows, EMPTY, kind, (), thing, thing)
                self.assertRaises(BadPlace, inverse, EMPTY, kind, (), thing, thing, ())
                self.assertRaises(BadPlace, compose, EMPTY, kind, (), (thing, thing, thing), (), ())
                self.assertRaises(BadPlace, act, EMPTY, kind, (), (), (), thing)
                self.assertRaises(BadPlace, act_arrow, EMPTY, kind, (), (), (), (thing, thing), ())

    def test_a_map_that_breaks_the_rule_for_composites(self):
        turns = ("maps", "k", Z(3), Z(3))
        swap, turn = (1, 0, 2), (1, 2, 0)
        rest = (0, 1, 2)
        ahead = ((), (0,), (0, 1), (0, 1))
        right = ((0, 1, 2, 3), ahead + (rest, (0, 2, 1), swap, turn, (2, 0, 1), (2, 1, 0)))
        self.assertEqual(identity(EMPTY, turns, (), right), ((), (0,), (0, 1), rest))
        wrong = ((0, 1, 2, 3), ahead + (rest, (0, 2, 1), swap, (2, 0, 1), turn, (2, 1, 0)))
        self.assertRaises(BadPlace, identity, EMPTY, turns, (), wrong)

    def test_objects_of_another_place(self):
        self.assertRaises(BadPlace, act, SIZE, of(3, N("n")), (2,), (3,), ((),), 2)
        self.assertRaises(BadPlace, identity, SIZE, of(3, N("n")), (2,), 2)


class StepTest(unittest.TestCase):

    def test_steps(self):
        for step in ((), ((0, 1),), ((0, 0, 1),), (0,), ((0, 1, 3),), ((0, 1, 2), ()), 0, (((0,), 1, 2),)):
            self.assertRaises(BadStep, back_step, SIZE, (3,), (3,), step)
            self.assertRaises(BadStep, join_steps, SIZE, ((3,),) * 3, step, ((0, 1, 2),))
            self.assertRaises(BadStep, join_steps, SIZE, ((3,),) * 3, ((0, 1, 2),), step)
            self.assertRaises(BadStep, act, SIZE, S(1), (3,), (3,), step, 0)
            self.assertRaises(BadStep, act_arrow, SIZE, S(1), (3,), (3,), step, (0, 0), ())
        self.assertRaises(BadStep, back_step, SIZE, (2,), (3,), ((0, 1),))
        self.assertRaises(BadStep, back_step, POINT, (2, 0), (2, 1), ((0, 1), ()))
        self.assertEqual(back_step(POINT, (2, 0), (2, 1), ((1, 0), ())), ((1, 0), ()))

    def test_arrows(self):
        maps = ("maps", "k", Z(2), Z(2))
        turns, keeps = ((0, 0, 2), ((), (), (0, 1), (1, 0))), ((0, 0, 2), ((), (), (0, 1), (0, 1)))
        wrong = [(S(2), 0, 1, ()), (S(2), 0, 0, 0), (S(2), 0, 0, (0,)), (Z(2), 1, 2, (0,)), (Z(2), 2, 2, (0, 0)),
                 (Z(2), 2, 2, (0, 1, 2)), (Z(2), 2, 2, ()), (Z(2), 2, 2, 1), (Z(2), 2, 2, ((0,), 1)),
                 (POINTED, (2, 0), (2, 1), ((0, 1), ())), (POINTED, (2, 0), (2, 0), ((1, 0), ())),
                 (POINTED, (2, 0), (2, 1), ((1, 0),)), (POINTED, (2, 0), (2, 1), ()), (POINTED, (1, 0), (2, 0), ((0,), ())),
                 (("either", S(1), Z(2)), (0, 0), (1, 0), ()), (("either", S(1), Z(2)), (1, 2), (1, 2), ()),
                 (("classes", POINTED), (1, 0), (2, 0), ()), (maps, keeps, turns, ((), (), (0, 1))),
                 (maps, turns, turns, ((), (), (0, 0))), (maps, turns, turns, ((), ())), (maps, turns, turns, 0)]
        for kind, start, end, arrow in wrong:
            with self.subTest(kind=kind, arrow=arrow):
                self.assertRaises(BadStep, inverse, EMPTY, kind, (), start, end, arrow)
                self.assertRaises(BadStep, act_arrow, EMPTY, kind, (), (), (), (start, end), arrow)
                rest = identity(EMPTY, kind, (), start)
                self.assertRaises(BadStep, compose, EMPTY, kind, (), (start, start, end), rest, arrow)
                rest = identity(EMPTY, kind, (), end)
                self.assertRaises(BadStep, compose, EMPTY, kind, (), (start, end, end), arrow, rest)


class OrderTest(unittest.TestCase):
    """Which error goes ahead of which."""

    def test_form_ahead_of_all_in_one_value(self):
        for kind in (("either", of(2, N("nowhere")), S(9)), ("either", of(3, Q(2, 1)), ("classes",)),
                     ("pairs", "n", of(2, ("code", 2, Z(2))), ("set",))):
            self.assertRaises(BadForm, check_type, SIZE, kind)
        self.assertRaises(BadForm, places, (("a", of(2, Q(3, 1))), ("a", S(1)), ("b", S(9))))

    def test_values_in_the_order_of_the_arguments(self):
        wrong_context = (("a", of(2, Q(3, 1))),)
        self.assertRaises(WrongType, check_type, wrong_context, ())
        self.assertRaises(BadName, check_type, (("a", S(1)), ("a", S(1))), ("set",))
        self.assertRaises(WrongType, equal_types, SIZE, of(2, Q(3, 1)), ())
        self.assertRaises(BadName, equal_types, SIZE, of(2, N("m")), ("set",))
        self.assertRaises(BadForm, equal_types, SIZE, ("set",), of(2, N("m")))
        self.assertRaises(NotFlat, equal_types, SIZE, of(2, ("code", 2, Z(2))), ())

    def test_values_ahead_of_places(self):
        self.assertRaises(WrongType, objects, SIZE, of(2, Q(3, 1)), (9,))
        self.assertRaises(BadForm, objects, SIZE, (), (9,))
        self.assertRaises(BadName, arrows, SIZE, of(2, N("m")), (9,), 9, 9)
        self.assertRaises(BadName, steps, (("a", S(1)), ("a", S(1))), (9,), (9,))

    def test_places_and_objects_ahead_of_steps_and_arrows(self):
        self.assertRaises(BadPlace, act, SIZE, S(1), (3,), (3,), (0,), 5)
        self.assertRaises(BadPlace, act, SIZE, S(1), (3,), (9,), (0,), 0)
        self.assertRaises(BadPlace, act_arrow, SIZE, S(1), (3,), (3,), (0,), (0, 5), 0)
        self.assertRaises(BadPlace, compose, EMPTY, S(2), (), (0, 0, 2), 7, 7)
        self.assertRaises(BadPlace, inverse, EMPTY, S(2), (), 0, 2, 7)
        self.assertRaises(BadPlace, join_steps, SIZE, ((3,), (3,), (9,)), 0, 0)
        self.assertRaises(BadPlace, back_step, SIZE, (3,), (9,), 0)
        self.assertRaises(BadStep, act_arrow, SIZE, S(1), (3,), (3,), (0,), (0, 0), 0)

    def test_everything_is_a_value_error(self):
        self.assertRaises(ValueError, places, 0)
        self.assertRaises(IsthmusError, objects, TWO, S(1), ())


if __name__ == "__main__":
    unittest.main()
