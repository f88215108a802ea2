"""The errors of the functions for terms and for closed types: each by what is wrong, and which goes ahead of which."""

import unittest

import plain
from growing import part_at, parts_of, well_named, with_part
from isthmus.closed import classes, equivalence, is_equivalence, mass, sections, way
from isthmus.contexts import places
from isthmus.errors import (BadForm, BadName, BadPlace, BadStep, IsthmusError, NotExchange, NotFlat, NotOnly, NotSmall,
                            WrongType)
from isthmus.forms import KINDS, TERMS, part_codes
from isthmus.machine import along, table, value
from isthmus.terms import equal_terms, type_of
from samples import ALONE, BIT, EITHER, FAMILY, FOUND, PAIR, PAIRED, POINT2, POINTED, SAMPLES, SIZE2, TURN
from short import EMPTY, N, NONE, P, POINT, Q, S, SIZE, TWO, WAY, Z, of
from test_errors import FormTest as Forms

FLIP = ("fun", "q", S(2), S(2), ("case", 2, "i", S(2), N("q"), (P(2, 1), P(2, 0))))


def everywhere(term):
    """The term at several depths, within what is right otherwise."""
    yield term
    yield ("given", "r", S(1), P(1, 0), term)
    yield ("left", S(1), of(1, term), P(1, 0))
    yield ("case", 1, "r", Z(2), P(1, 0), (term,))
    yield ("any", ("pairs", "r", S(2), ("either", S(1), ("ways", S(1), term, P(1, 0)))))
    yield ("fun", "r", S(1), S(1), ("code", 2, ("classes", ("at", "u", S(1), term, S(1)))))


class TermErrorsTest(unittest.TestCase):

    def assert_error(self, error, context, term):
        """The error is raised by each function, also ahead of places and steps that are none."""
        with self.subTest(context=context, term=term):
            self.assertRaises(error, type_of, context, term)
            self.assertRaises(error, equal_terms, context, term, P(1, 0))
            self.assertRaises(error, equal_terms, context, P(1, 0), term)
            self.assertRaises(error, table, context, term)
            for place in ((), "no place", (9,) * len(context)):
                self.assertRaises(error, value, context, term, place)
                self.assertRaises(error, along, context, term, place, (), 0)

    def assert_right(self, context, term):
        with self.subTest(context=context, term=term):
            type_of(context, term)
            self.assertIs(equal_terms(context, term, term), True)
            table(context, term)


class FormsTest(TermErrorsTest):

    def test_terms(self):
        for term in Forms.wrong_terms + [S(2), [("point", 1, 0)], ["point", 1, 0], ("point", [1], 0), None, ("point", None, 0),
                                         ("name", ("n",)), ("given", "r", S(1), P(1, 0)), ("case", 2, "k", Z(2), P(2, 0), [Q(2, 1)] * 2)]:
            for outer in everywhere(term):
                self.assert_error(BadForm, SIZE, outer)

    def test_types_within_terms(self):
        for kind in Forms.wrong_types + [P(1, 0), ["set", 1], None]:
            for term in (("any", kind), ("only", ("classes", kind)), ("stay", kind, P(1, 0)), ("fun", "r", S(1), kind, P(1, 0)),
                         ("fun", "r", kind, S(1), P(1, 0)), ("led", "r", S(1), kind, P(1, 0), P(1, 0), P(1, 0), P(1, 0)),
                         ("split", "z", S(1), S(1), kind, "x", P(1, 0), "y", P(1, 0), P(1, 0)), ("open", "n", kind, S(1), N("n"))):
                self.assert_error(BadForm, SIZE, term)

    def test_contexts(self):
        for context in (0, "a", [], (0,), (("a",),), (("a", S(5)),), (("A", S(1)),), (("a", P(1, 0)),), (("a", S(1)), 1)):
            self.assertRaises(BadForm, type_of, context, P(1, 0))
            self.assertRaises(BadForm, equal_terms, context, P(1, 0), P(1, 0))
            self.assertRaises(BadForm, value, context, P(1, 0), ())
            self.assertRaises(BadForm, along, context, P(1, 0), (), (), ())
            self.assertRaises(BadForm, table, context, P(1, 0))
            self.assertRaises(BadForm, sections, context, S(1))

    def test_each_part_of_each_form(self):
        """Each part of each sample as a part of no sort, and each form with a part more or less."""
        for context, term, _ in SAMPLES:
            self.assertRaises(BadForm, type_of, context, term + (0,))
            self.assertRaises(BadForm, type_of, context, term[:-1])
            for at in range(len(term)):
                self.assertRaises(BadForm, type_of, context, term[:at] + (-1,) + term[at + 1:])
                self.assertRaises(BadForm, type_of, context, term[:at] + ("No",) + term[at + 1:])
                self.assertRaises(BadForm, type_of, context, term[:at] + (((),),) + term[at + 1:])


class NamesTest(TermErrorsTest):

    def test_not_in_the_context(self):
        for term in (N("m"), N("k"), ("given", "k", Z(3), N("k"), N("k")), ("open", "m", Z(3), Z(3), N("n")),
                     ("open", "n", Z(3), Z(3), ("fun", "k", Z(3), Z(3), N("n"))), ("open", "n", of(3, N("n")), S(1), N("n")),
                     ("fun", "k", of(3, N("k")), S(1), P(1, 0)), ("stay", Z(3), N("p")), ("any", of(3, N("nn"))),
                     ("split", "z", S(1), S(1), Z(2), "x", N("y"), "y", Q(2, 1), ("left", S(1), S(1), P(1, 0))),
                     ("split", "z", S(1), S(1), Z(2), "x", Q(2, 1), "y", N("x"), ("left", S(1), S(1), P(1, 0))),
                     ("split", "z", S(1), S(1), Z(2), "x", Q(2, 1), "y", N("z"), ("left", S(1), S(1), P(1, 0))),
                     ("led", "k", Z(2), of(2, N("k")), N("k"), Q(2, 1), Q(2, 1), ("stay", Z(2), Q(2, 1))),
                     ("eachclass", "k", Z(2), of(2, N("k")), N("k"), ("class", Z(2), Q(2, 1))),
                     ("carry", "k", Z(2), of(2, N("k")), N("k"), Q(2, 1), P(1, 0), P(1, 0)),
                     ("case", 1, "k", Z(2), P(1, 0), (N("k"),)), ("exchange", 2, "k", N("k"), N("n"), N("n"))):
            for outer in everywhere(term):
                self.assert_error(BadName, SIZE, outer)
        # In the part of the context ahead of n there is no m.
        self.assert_error(BadName, TWO, ("open", "n", Z(2), Z(2), ("fun", "k", Z(2), Z(2), N("m"))))
        self.assert_error(BadName, TWO, ("open", "n", Z(2), of(2, N("m")), N("n")))

    def test_bound_against_the_rule(self):
        for term in (("fun", "n", S(1), S(1), P(1, 0)), ("given", "n", S(1), P(1, 0), P(1, 0)),
                     ("case", 1, "n", S(1), P(1, 0), (P(1, 0),)), ("any", ("pairs", "n", S(1), S(1))),
                     ("fun", "k", S(1), S(1), ("given", "k", S(1), P(1, 0), P(1, 0))),
                     ("exchange", 2, "n", Q(2, 1), Q(2, 1), N("n")), ("eachclass", "n", S(1), S(1), P(1, 0), P(1, 0)),
                     ("mapway", "n", S(1), S(1), P(1, 0), P(1, 0), P(1, 0)), ("pairway", "n", S(1), S(1), N("n"), N("n"), N("n"), N("n")),
                     ("split", "n", S(1), S(1), Z(2), "x", Q(2, 1), "y", Q(2, 1), N("n")),
                     ("split", "z", S(1), S(1), Z(2), "n", Q(2, 1), "y", Q(2, 1), N("n")),
                     ("split", "z", S(1), S(1), Z(2), "x", Q(2, 1), "n", Q(2, 1), N("n")),
                     ("open", "n", Z(3), ("pairs", "n", S(1), S(1)), N("a"))):
            for outer in everywhere(term):
                self.assert_error(BadName, SIZE, outer)

    def test_names_that_look_wrong(self):
        self.assert_right(SIZE2, ("open", "n", Z(2), Z(2), ("fun", "n", Z(2), Z(2), N("n"))))
        self.assert_right(TWO, ("open", "n", Z(2), ("maps", "m", S(1), Z(2)),
                                ("fun", "n", Z(2), ("maps", "m", S(1), Z(2)), ("fun", "m", S(1), Z(2), N("n")))))
        self.assert_right(EITHER, ("split", "x", of(2, N("n")), Z(1), Z(2), "x", N("n"), "x", Q(2, 1), N("e")))
        self.assert_right(EMPTY, ("fun", "k", ("pairs", "k", S(1), S(1)), S(1), P(1, 0)))
        self.assert_right(EMPTY, ("pair", "a", S(1), S(1), ("given", "a", S(1), P(1, 0), N("a")), P(1, 0)))
        self.assert_right((("name", Z(2)),), ("stay", Z(2), N("name")))
        self.assert_right((("point", Z(2)),), ("fun", "set", of(2, N("point")), of(2, N("point")), N("set")))

    def test_twice_in_a_context(self):
        for context in ((("a", S(1)), ("a", S(1))), (("a", S(1)), ("b", ("maps", "a", S(1), S(1))))):
            self.assertRaises(BadName, type_of, context, P(1, 0))
            self.assertRaises(BadName, table, context, P(1, 0))
            self.assertRaises(BadName, sections, context, S(1))


class PartsTest(TermErrorsTest):

    wrong = [
        (SIZE2, ("case", 2, "k", Z(2), P(3, 0), (Q(2, 1), Q(2, 1)))), (SIZE2, ("case", 2, "k", Z(2), P(2, 0), (Q(2, 1), Q(3, 1)))),
        (BIT, ("case", 2, "k", of(2, ("case", 2, "i", Z(2), N("k"), (Q(2, 1), Q(2, 2)))), N("b"), (P(2, 0), P(1, 0)))),
        (EMPTY, ("index", 2, S(2), P(3, 0))), (EMPTY, ("item", 2, S(2), P(1, 0))), (EMPTY, ("item", 3, S(2), P(3, 0))),
        (EMPTY, ("pair",) + POINTED[1:] + (Q(3, 2), P(2, 0))), (EMPTY, ("pair",) + POINTED[1:] + (Q(2, 2), P(1, 0))),
        (POINT2, ("pair",) + POINTED[1:] + (Q(2, 2), N("p"))), (POINT2, ("first", "k", Z(2), of(2, N("n")), PAIR)),
        (PAIRED, ("first", "k", Z(2), Z(2), N("r"))), (PAIRED, ("second", "k", Z(2), S(2), N("r"))),
        (EMPTY, ("fun", "k", Z(2), of(2, N("k")), P(2, 0))), (EMPTY, ("fun", "k", Z(2), Z(3), N("k"))),
        (EMPTY, ("app", "q", S(2), S(2), FLIP, P(3, 0))), (EMPTY, ("app", "q", S(3), S(2), FLIP, P(3, 0))),
        (EMPTY, ("app", "q", S(2), S(3), FLIP, P(2, 0))), (FAMILY, ("app", "i", S(2), Z(2), N("f"), P(2, 0))),
        (SIZE2, ("open", "n", Z(3), Z(3), ("fun", "q", Z(3), Z(3), N("q")))), (SIZE2, ("open", "n", Z(2), Z(3), ("fun", "q", Z(2), Z(2), N("q")))),
        (EMPTY, ("stay", Z(2), P(2, 0))), (WAY, ("back", Z(2), N("n"), N("m"), ("stay", Z(2), N("n")))),
        (TWO, ("back", Z(2), N("n"), N("m"), ("stay", Z(2), N("n")))), (EMPTY, ("back", Z(3), Q(3, 3), Q(3, 2), TURN)),
        (EMPTY, ("join", Z(3), Q(3, 3), Q(3, 3), Q(3, 2), TURN, TURN)), (EMPTY, ("join", Z(3), Q(3, 2), Q(3, 3), Q(3, 3), TURN, TURN)),
        (EMPTY, ("led", "x", Z(3), Z(2), N("x"), Q(3, 3), Q(3, 3), TURN)), (EMPTY, ("led", "x", Z(3), Z(3), N("x"), Q(3, 3), Q(3, 2), TURN)),
        (EMPTY, ("led", "x", Z(2), Z(2), N("x"), Q(3, 3), Q(3, 3), TURN)),
        (FOUND, ("carry", "k", Z(2), of(2, N("k")), N("m"), N("n"), N("w"), Q(2, 1))),
        (EMPTY, ("carry", "k", Z(3), of(3, N("k")), Q(3, 3), Q(3, 3), TURN, P(2, 0))),
        (EMPTY, ("exchange", 2, "q", Q(2, 2), Q(2, 1), FLIP)), (EMPTY, ("exchange", 3, "q", Q(2, 2), Q(2, 2), FLIP)),
        (EMPTY, ("class", S(2), P(3, 0))), (EMPTY, ("eachclass", "x", Z(2), S(2), N("x"), ("class", Z(2), Q(2, 1)))),
        (EMPTY, ("eachclass", "x", Z(2), S(2), P(2, 0), Q(2, 1))), (EMPTY, ("eachclass", "x", Z(2), S(2), P(2, 0), ("class", Z(1), Q(1, 1)))),
        (EMPTY, ("left", S(1), S(2), P(2, 0))), (EMPTY, ("right", S(1), S(2), P(1, 0))),
        (EITHER, ("split", "z", of(2, N("n")), Z(1), Z(2), "x", N("x"), "y", Q(2, 1), N("e"))),
        (EITHER, ("split", "z", of(2, N("n")), Z(1), Z(2), "x", N("n"), "y", N("y"), N("e"))),
        (EITHER, ("split", "z", Z(1), of(2, N("n")), Z(2), "x", N("n"), "y", N("n"), N("e"))),
        (EMPTY, ("given", "x", S(2), P(3, 0), N("x"))), (EMPTY, ("any", of(2, P(2, 0)))), (EMPTY, ("only", ("ways", S(1), P(2, 0), P(2, 0)))),
    ]

    def test_wrong(self):
        for context, term in self.wrong:
            self.assert_error(WrongType, context, term)
            self.assert_error(WrongType, context, ("given", "h", S(1), P(1, 0), term))
            self.assert_error(WrongType, context, ("left", S(1), ("pairs", "h", S(1), ("classes", ("ways", S(1), P(1, 0), term))), P(1, 0)))

    def test_each_part_of_each_form(self):
        """A term of no fitting type in the place of each term that a form takes."""
        odd = ("right", S(4), ("either", S(3), S(4)), ("left", S(3), S(4), P(3, 2)))
        done = {}
        for context, term, _ in SAMPLES:
            if not places(context):
                continue
            for at, code in enumerate(part_codes(term[0]), 1):
                if code == "T*":
                    for k in range(len(term[at])):
                        branches = term[at][:k] + (odd,) + term[at][k + 1:]
                        self.assert_error(WrongType, context, term[:at] + (branches,) + term[at + 1:])
                elif code[0] == "T" and (term[0], code) != ("given", "Tx"):
                    self.assert_error(WrongType, context, term[:at] + (odd,) + term[at + 1:])
                    done[(term[0], at)] = True
        every = {(word, at) for word, codes in TERMS.items() for at, code in enumerate(codes, 1) if code[0] == "T" and code != "T*"}
        self.assertEqual(set(done), every - {("given", 4)})

    def test_each_part_against_the_slow_reading(self):
        """Other types and terms in the place of each part at any depth: the error that is due, or none."""
        others = [P(2, 1), Q(2, 1), ("left", S(3), S(4), P(3, 2)), S(2), Z(2), ("pairs", "u", S(2), Z(1))]
        found, errors = 0, {}
        for context, term, _ in SAMPLES:
            for path in parts_of(term):
                for other in others:
                    changed = with_part(term, path, other)
                    if (part_at(term, path)[0] in KINDS) != (other[0] in KINDS) or not well_named(changed, context):
                        continue
                    try:
                        wanted = plain.type_of(context, changed)
                    except plain.Wrong as error:
                        wanted = error.args[0]
                    except plain.Skip:
                        continue
                    try:
                        given = type_of(context, changed)
                    except IsthmusError as error:
                        given = type(error).__name__
                    self.assertEqual(given, wanted, (context, changed))
                    found += isinstance(wanted, tuple)
                    errors[str(wanted)] = True
        self.assertGreater(found, 300)
        self.assertLessEqual({"WrongType", "NotFlat", "NotSmall", "NotOnly"}, set(errors))

    def test_no_part_is_wrong_without_places(self):
        for context, term in self.wrong:
            if term[0] != "open":
                self.assert_right(context + (("v", S(0)),), term)

    def test_at_one_place_alone(self):
        # The sizes agree at all places but where n is 2.
        kind = of(2, ("case", 3, "i", Z(2), N("a"), (Q(2, 1), Q(2, 1), Q(2, 2))))
        context = (("a", S(3)), ("p", kind))
        self.assert_error(WrongType, context, ("class", S(1), N("p")))
        self.assert_right(context + (("v", ("ways", S(2), P(2, 0), ("any", ("ways", S(3), N("a"), P(3, 2))))),), ("class", S(1), N("p")))
        self.assert_error(WrongType, (("n", Z(2)), ("p", of(2, N("n")))), ("class", of(2, ("code", 2, S(2))), N("p")))

    def test_along_steps_alone(self):
        # At the one place both types have two points; along the exchange only one of them does nothing.
        two = ("pairs", "s", Z(2), ("ways", S(2), ("any", ("ways", Z(2), N("s"), Q(2, 2))), P(2, 1)))
        points = of(2, ("first",) + two[1:] + (N("r"),))
        context = (("r", two), ("p", points))
        self.assert_right(context, ("class", points, N("p")))
        self.assert_error(WrongType, context, ("class", S(2), N("p")))


class ConditionsTest(TermErrorsTest):

    def test_not_flat(self):
        for term in (("code", 3, Z(2)), ("index", 3, Z(2), Q(2, 1)), ("item", 3, Z(2), P(3, 0)), ("code", 4, POINTED),
                     ("eachclass", "x", Z(2), Z(2), Q(2, 1), ("class", Z(2), Q(2, 1))),
                     ("eachclass", "x", S(1), ("maps", "q", S(1), Z(2)), ("fun", "q", S(1), Z(2), Q(2, 1)), ("class", S(1), P(1, 0)))):
            self.assert_error(NotFlat, SIZE, term)
            self.assert_error(NotFlat, SIZE, ("given", "h", S(1), P(1, 0), term))
        self.assert_right(SIZE, ("code", 2, Z(1)))
        self.assert_right(SIZE, ("eachclass", "x", Z(2), Z(1), Q(1, 1), ("class", Z(2), Q(2, 1))))
        self.assert_right(NONE, ("code", 0, Z(4)))

    def test_not_small(self):
        for term in (("code", 2, of(3, N("n"))), ("index", 2, S(3), P(3, 0)), ("item", 2, S(3), P(2, 0)), ("code", 0, S(1))):
            self.assert_error(NotSmall, SIZE, term)
            self.assert_error(NotSmall, SIZE, ("any", ("ways", S(1), P(1, 0), ("given", "h", S(1), P(1, 0), term))))
        for term in (("code", 3, of(3, N("n"))), ("code", 0, S(0)), ("index", 3, S(3), P(3, 0)), ("code", 4, ("classes", Z(3)))):
            self.assert_right(SIZE, term)
        # Three points only where n is 3; beside a way from n to 2 there is no such place.
        self.assert_right(SIZE + (("w", ("ways", Z(3), N("n"), Q(3, 2))),), ("code", 2, of(3, N("n"))))

    def test_not_exchange(self):
        def exchange(first, second, body):
            return ("exchange", 3, "q", first, second, ("fun", "q", of(3, first), of(3, second), body))

        for term in (exchange(Q(3, 2), Q(3, 2), P(2, 1)), exchange(Q(3, 1), Q(3, 2), P(2, 0)), exchange(Q(3, 2), Q(3, 1), P(1, 0)),
                     exchange(Q(3, 0), Q(3, 1), P(1, 0))):
            self.assert_error(NotExchange, SIZE, term)
        for term in (exchange(Q(3, 2), Q(3, 2), N("q")), exchange(Q(3, 0), Q(3, 0), N("q")), exchange(Q(3, 1), Q(3, 1), P(1, 0)),
                     exchange(N("n"), N("n"), N("q"))):
            self.assert_right(SIZE, term)
        # A map to one point is an exchange where there is just one point.
        context = SIZE2 + (("p", of(2, N("n"))),)
        body = ("exchange", 2, "q", N("n"), N("n"), ("fun", "q", of(2, N("n")), of(2, N("n")), N("p")))
        self.assert_error(NotExchange, context, body)
        self.assert_right(context + (("w", ("ways", Z(2), N("n"), Q(2, 1))),), body)

    def test_not_only(self):
        for kind in (S(0), S(2), Z(1), of(3, N("n")), ("pairs", "k", Z(2), ("ways", S(2), ("any", ("ways", Z(2), N("k"), Q(2, 2))), P(2, 1)))):
            self.assert_error(NotOnly, SIZE, ("only", kind))
            self.assert_error(NotOnly, SIZE, ("given", "h", S(1), P(1, 0), ("stay", kind, ("only", kind))))
        for kind in (S(1), Z(0), ("maps", "q", of(3, N("n")), S(1)), ("classes", ("pairs", "k", Z(2), ("ways", Z(2), N("k"), Q(2, 2))))):
            self.assert_right(SIZE, ("only", kind))
        # At one place alone: a way from b to 1 where b is 0.
        self.assert_error(NotOnly, BIT, ("only", ("ways", S(2), N("b"), P(2, 1))))
        self.assert_right(ALONE, ("only", ("ways", S(2), N("b"), P(2, 1))))
        self.assert_right(NONE, ("only", S(4)))

    def test_in_the_context_of_a_part(self):
        # There is a place where k is 2 but none where n is.
        context = SIZE2 + (("w", ("ways", Z(2), N("n"), Q(2, 1))),)
        self.assert_right(context, ("code", 1, of(2, N("n"))))
        self.assert_error(NotSmall, context, ("fun", "k", Z(2), Z(1), ("code", 1, of(2, N("k")))))


class PlacesTest(unittest.TestCase):

    def test_value(self):
        for place in ((), (4,), (-1,), ((),), (0, 0), 0, ((2,),)):
            self.assertRaises(BadPlace, value, SIZE, N("n"), place)
            self.assertRaises(BadPlace, along, SIZE, N("n"), place, (0,), ((),))
            self.assertRaises(BadPlace, along, SIZE, N("n"), (0,), place, ((),))
        for place in ((1, 1), (0, 0), (2, 2), (2,), (2, 1, 0), (2, (1,))):
            self.assertRaises(BadPlace, value, POINT, N("p"), place)
        self.assertRaises(BadPlace, value, EMPTY, P(1, 0), (0,))
        self.assertRaises(BadPlace, value, NONE, N("v"), (0, 0))
        self.assertEqual(value(EMPTY, P(1, 0), ()), 0)

    def test_along(self):
        for step in ((), ((0, 1),), ((0, 0, 1),), (0,), ((0, 1, 3),), ((0, 1, 2), ()), 0, (((0,), 1, 2),)):
            self.assertRaises(BadStep, along, SIZE, N("n"), (3,), (3,), step)
        self.assertRaises(BadStep, along, SIZE, N("n"), (2,), (3,), ((0, 1),))
        self.assertRaises(BadStep, along, POINT, N("p"), (2, 0), (2, 1), ((0, 1), ()))
        self.assertEqual(along(POINT, N("p"), (2, 0), (2, 1), ((1, 0), ())), ())
        self.assertRaises(BadStep, along, EMPTY, P(1, 0), (), (), ((),))

    def test_places_ahead_of_steps(self):
        self.assertRaises(BadPlace, along, SIZE, N("n"), (3,), (9,), "no step")
        self.assertRaises(BadPlace, along, SIZE, N("n"), (9,), (3,), "no step")
        self.assertRaises(BadStep, along, SIZE, N("n"), (3,), (3,), "no step")


class OrderTest(unittest.TestCase):

    def test_form_ahead_of_all_in_one_value(self):
        for term in (("pair", "n", S(1), S(1), N("nowhere"), ("point", 9, 0)), ("stay", Z(3), ("pair", "n", S(1), S(1), Q(3, 1), ("name",))),
                     ("join", Z(2), Q(3, 1), N("m"), Q(2, 1), ("code", 0, Z(4)), ())):
            self.assertRaises(BadForm, type_of, SIZE, term)

    def test_values_in_the_order_of_the_arguments(self):
        wrong = (("a", of(2, Q(3, 1))),)
        self.assertRaises(WrongType, type_of, wrong, ())
        self.assertRaises(WrongType, sections, wrong, ())
        self.assertRaises(WrongType, equal_terms, SIZE, ("stay", Z(2), Q(3, 1)), ())
        self.assertRaises(BadName, equal_terms, SIZE, N("m"), ("point",))
        self.assertRaises(BadForm, equal_terms, SIZE, ("point",), N("m"))
        self.assertRaises(NotSmall, equal_terms, SIZE, ("code", 1, S(2)), N("m"))
        self.assertRaises(NotOnly, equivalence, ("ways", S(2), ("only", S(2)), P(2, 0)), S(9))
        self.assertRaises(BadForm, equivalence, S(9), of(2, N("n")))
        self.assertRaises(BadName, is_equivalence, of(2, N("n")), S(9), 0)

    def test_values_ahead_of_places(self):
        self.assertRaises(WrongType, value, SIZE, ("stay", Z(2), Q(3, 1)), (9,))
        self.assertRaises(BadName, along, SIZE, N("m"), (9,), (9,), 0)
        self.assertRaises(BadForm, way, S(9), 99, 99)


class ClosedErrorsTest(unittest.TestCase):

    def assert_error(self, error, kind):
        with self.subTest(kind=kind):
            self.assertRaises(error, classes, kind)
            self.assertRaises(error, mass, kind)
            self.assertRaises(error, way, kind, 0, 0)
            self.assertRaises(error, equivalence, kind, S(1))
            self.assertRaises(error, equivalence, S(1), kind)
            self.assertRaises(error, is_equivalence, kind, S(1), ((0,), ((),)))
            self.assertRaises(error, is_equivalence, S(1), kind, ())
            self.assertRaises(error, sections, EMPTY, kind)
            self.assertRaises(error, sections, SIZE, kind)

    def test_kinds(self):
        for kind in Forms.wrong_types:
            self.assert_error(BadForm, kind)
            self.assert_error(BadForm, ("either", S(1), kind))
        for kind in (of(2, N("k")), ("pairs", "k", of(3, N("k")), S(1)), ("pairs", "k", S(1), ("maps", "k", S(1), S(1)))):
            self.assert_error(BadName, kind)
        for kind in (of(2, Q(3, 1)), ("ways", S(2), P(2, 0), P(3, 0)), ("pairs", "k", Z(2), of(3, N("k")))):
            self.assert_error(WrongType, kind)
        self.assert_error(NotFlat, of(3, ("code", 3, Z(2))))
        self.assert_error(NotSmall, of(2, ("code", 2, S(3))))
        self.assert_error(NotOnly, ("ways", S(2), ("only", S(2)), P(2, 0)))
        self.assert_error(NotExchange, ("ways", ("ways", Z(2), Q(2, 2), Q(2, 1)), *[
            ("exchange", 2, "q", Q(2, 2), Q(2, 1), ("fun", "q", S(2), S(1), P(1, 0)))] * 2))

    def test_a_name_of_the_context_is_not_closed(self):
        self.assertRaises(BadName, classes, of(3, N("n")))
        self.assertEqual(len(sections(SIZE, of(3, ("code", 3, S(1))))), 1)
        self.assertRaises(BadName, sections, SIZE, ("pairs", "n", S(1), S(1)))

    def test_ways(self):
        for kind, thing in ((S(2), 2), (S(2), -1), (S(2), ()), (Z(2), (2,)), (POINTED, (2, 2)), (POINTED, 2),
                            (("classes", POINTED), (2, 1)), (("maps", "k", S(1), S(1)), ((0,), ())), (S(0), 0)):
            right = {"set": 0, "sizes": 0, "pairs": (1, 0), "classes": (1, 0), "maps": ((0,), ((),))}[kind[0]]
            self.assertRaises(BadPlace, way, kind, thing, right)
            if kind != S(0):
                self.assertRaises(BadPlace, way, kind, right, thing)
                self.assertIsNotNone(way(kind, right, right))


class NearlyWrongTest(TermErrorsTest):

    def test_right(self):
        for context, term in (
                (EMPTY, ("pair", "k", S(2), of(2, Q(2, 2)), P(2, 1), ("any", S(0)))), (EMPTY, ("case", 2, "k", S(2), ("any", S(1)), (P(2, 0), ("any", Z(0))))),
                (EMPTY, ("item", 4, S(2), ("any", S(1)))), (EMPTY, ("stay", ("maps", "q", S(2), S(2)), FLIP)),
                (EMPTY, ("exchange", 2, "k", ("code", 2, S(2)), Q(2, 2), FLIP)), (EMPTY, ("exchange", 0, "k", Q(0, 0), Q(0, 0), ("fun", "q", S(0), S(0), N("q")))),
                (EMPTY, ("class", S(1), Q(0, 0))), (EMPTY, ("stay", Z(0), P(1, 0))), (EMPTY, ("left", Z(0), S(1), P(1, 0))),
                (EMPTY, ("fun", "k", S(0), S(0), N("k"))), (EMPTY, ("fun", "k", S(0), Z(2), P(1, 0))),
                (EMPTY, ("app", "r", S(2), ("at", "i", S(2), N("r"), S(2)), FLIP, P(2, 0))),
                (SIZE2, ("stay", Z(2), ("code", 2, of(2, N("n"))))), (SIZE2, ("eachclass", "k", Z(2), S(2), ("any", of(2, N("k"))), ("class", Z(2), N("n")))),
                (POINT2, ("class", of(2, ("code", 2, of(2, N("n")))), N("p"))),
                (WAY, ("join", Z(2), N("n"), N("m"), N("m"), N("w"), ("stay", Z(2), N("m")))),
                (EMPTY, ("code", 4, ("maps", "k", S(2), S(2)))), (EMPTY, ("code", 1, ("maps", "k", S(4), S(1)))),
                (EMPTY, ("code", 0, ("maps", "k", S(4), S(0)))), (EMPTY, ("code", 1, ("maps", "k", S(0), Z(4))))):
            self.assert_right(context, term)


if __name__ == "__main__":
    unittest.main()
