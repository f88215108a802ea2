"""Terms in longer contexts (point 6), and that nothing that is passed or returned is shared (points 2 and 5)."""

import copy
import unittest

from compare import thinned
from isthmus.closed import classes, equivalence, is_equivalence, mass, sections, way
from isthmus.contexts import MOST, join_steps, places, steps
from isthmus.errors import TooLarge
from isthmus.machine import along, table, value
from isthmus.terms import equal_terms, type_of
from isthmus.types import arrows, objects
from growing import well_named
from samples import SAMPLES, SIZE2
from short import EMPTY, N, P, Q, S, TWO, Z, of

FURTHER = {
    "ahead": lambda G: (("aa", S(2)), ("bb", Z(2))) + G,
    "behind": lambda G: G + (("yy", Z(2)), ("zz", of(2, N("yy")))),
    "between": lambda G: tuple(pair for k, (x, A) in enumerate(G) for pair in ((x, A), ("q" * (k + 3), Z(2)))),
    "all over": lambda G: (("aa", Z(2)),) + tuple(pair for k, (x, A) in enumerate(G) for pair in ((x, A), ("r" * (k + 3), S(2)))),
}


class LongerContextsTest(unittest.TestCase):

    def check_longer(self, context, longer, term, kind):
        own = [k for k, (name, _) in enumerate(longer) if name in [x for x, _ in context]]
        self.assertEqual([longer[k][0] for k in own], [x for x, _ in context])
        self.assertEqual(type_of(longer, term), kind)
        things = dict(table(context, term)[0])
        links = {row[:3]: row[3] for row in table(context, term)[1]}

        def part(data):
            return tuple(data[k] for k in own)

        rows, tracks = table(longer, term)
        self.assertEqual(rows, [(g, things[part(g)]) for g in places(longer)])
        self.assertEqual(bool(rows), bool(things))
        self.assertEqual(tracks, [(g, h, s, links[(part(g), part(h), part(s))]) for g, h, s, _ in tracks])
        for g, thing in thinned(rows, 3):
            self.assertEqual(value(longer, term, g), thing)
        for g, h, s, link in thinned(tracks, 5):
            self.assertEqual(along(longer, term, g, h, s), link)

    def is_large(self, context):
        try:
            rows, tracks = table(context, P(1, 0))
        except TooLarge:
            return True
        return len(rows) + len(tracks) > MOST

    def test_each_sample_with_further_names(self):
        done = 0
        for context, term, kind in SAMPLES:
            if len(context) > 2 or any(A == Z(4) for _, A in context):
                continue
            for where, further in FURTHER.items():
                longer = further(context)
                if well_named(term, longer) and not self.is_large(longer):
                    with self.subTest(context=context, term=term, where=where):
                        self.check_longer(context, longer, term, kind)
                        done += 1
        self.assertGreater(done, 350)

    def test_equal_in_the_longer_context(self):
        for context, term, _ in SAMPLES[::3]:
            longer = FURTHER["behind"](context)
            if len(context) < 2:
                self.assertIs(equal_terms(longer, term, ("given", "h", S(1), P(1, 0), term)), True)

    def test_names_that_a_term_binds(self):
        """open tells a map ahead of a name, which may bind the names that follow."""
        for y in ("m", "y"):
            kind = ("maps", y, of(2, N("n")), Z(2))
            term = ("open", "n", Z(2), kind, ("fun", "n", Z(2), kind, ("fun", y, of(2, N("n")), Z(2), ("code", 2, of(2, N("n"))))))
            self.check_longer(SIZE2, SIZE2, term, kind)
            self.check_longer(SIZE2, SIZE2 + (("m", S(2)), ("y", Z(2))), term, kind)
            self.check_longer(SIZE2, (("a", Z(1)),) + SIZE2 + (("y", of(2, N("n"))), ("m", Z(1))), term, kind)
        term = ("open", "n", Z(2), of(2, N("n")), N("f"))
        context = (("f", ("maps", "n", Z(2), of(2, N("n")))), ("n", Z(2)), ("k", Z(2)))
        self.assertEqual(places(context), [])
        self.assertEqual(table(context, term), ([], []))

    def test_the_type_of_a_name_binds_a_later_name(self):
        own = (("n", Z(2)), ("f", ("maps", "q", of(2, N("n")), S(2))))
        longer = own + (("q", S(3)), ("i", of(2, N("n"))))
        self.check_longer(own, longer, N("f"), own[1][1])
        self.assertEqual(type_of(longer, N("f")), own[1][1])
        term = ("app", "k", of(2, N("n")), S(2), N("f"), N("i"))
        self.assertEqual(type_of(longer, term), ("at", "k", of(2, N("n")), N("i"), S(2)))
        for f in ((0, 0), (0, 1), (1, 0), (1, 1)):
            for q in range(3):
                for i in (0, 1):
                    self.assertEqual(value(longer, term, (2, (f, ((), ())), q, i)), f[i])
        self.assertIs(equal_terms(longer, N("f"), ("fun", "x", of(2, N("n")), S(2), ("app", "k", of(2, N("n")), S(2), N("f"), N("x")))),
                      True)

    def test_hidden_names_within(self):
        # The map m ahead binds n; n behind it is another thing.
        context = (("f", ("maps", "n", Z(2), Z(2))), ("n", Z(2)))
        term = ("app", "x", Z(2), Z(2), N("f"), N("n"))
        for f, n in places(context):
            self.assertEqual(value(context, term, (f, n)), f[0][n])
        opened = ("open", "n", Z(2), Z(2), N("f"))
        self.assertIs(equal_terms(context, term, opened), True)
        self.assertIs(equal_terms(context, ("mapway", "x", Z(2), Z(2), N("f"), N("f"), ("stay", Z(2), ("open", "x", Z(2), Z(2), N("f")))),
                                  ("stay", ("maps", "x", Z(2), Z(2)), N("f"))), True)


class NothingSharedTest(unittest.TestCase):

    def test_arguments_stay(self):
        for context, term, kind in SAMPLES:
            before = copy.deepcopy((context, term))
            rows, tracks = table(context, term)
            type_of(context, term)
            equal_terms(context, term, term)
            for place, _ in rows[:1]:
                value(context, term, place)
            self.assertEqual((context, term), before)

    def test_returned_lists_are_new(self):
        calls = [lambda: table(SIZE2, N("n"))[0], lambda: table(SIZE2, N("n"))[1], lambda: classes(Z(3)), lambda: sections(SIZE2, Z(1)),
                 lambda: objects(SIZE2, of(2, N("n")), (2,)), lambda: arrows(SIZE2, Z(2), (2,), 2, 2), lambda: places(TWO),
                 lambda: steps(TWO, (2, 2), (2, 2)), lambda: objects(EMPTY, ("ways", Z(2), Q(2, 2), Q(2, 2)), ())]
        for call in calls:
            found = call()
            kept = list(found)
            self.assertIsInstance(found, list)
            self.assertTrue(found)
            self.assertEqual(found, sorted(found))
            found.reverse()
            found.append(None)
            self.assertEqual(call(), kept)

    def test_kinds_of_answers(self):
        self.assertIsInstance(table(EMPTY, P(1, 0)), tuple)
        self.assertIsInstance(type_of(EMPTY, P(1, 0)), tuple)
        self.assertIs(type(value(EMPTY, P(1, 0), ())), int)
        self.assertIs(type(value(EMPTY, ("any", S(2)), ())), int)
        self.assertIs(type(classes(Z(2))[0]), tuple)
        self.assertEqual([type(part) for part in mass(Z(2))], [int, int])
        self.assertIsInstance(equivalence(Z(2), Z(2)), tuple)
        self.assertIs(is_equivalence(Z(2), Z(2), ()), False)
        self.assertIsInstance(way(Z(2), 2, 2), tuple)
        self.assertEqual([type(part) for part in sections(SIZE2, Z(1))[0]], [tuple, tuple])

    def test_the_same_call_again(self):
        for context, term, _ in SAMPLES[::4]:
            self.assertEqual(table(context, term), table(context, term))

    def test_composites_of_steps(self):
        # A composite of steps, asked of along, is the composite of the permutations.
        for s in steps(SIZE2, (2,), (2,)):
            for t in steps(SIZE2, (2,), (2,)):
                both = join_steps(SIZE2, ((2,), (2,), (2,)), s, t)
                u, v = along(SIZE2, N("n"), (2,), (2,), s), along(SIZE2, N("n"), (2,), (2,), t)
                self.assertEqual(along(SIZE2, N("n"), (2,), (2,), both), tuple(v[u[k]] for k in (0, 1)))


if __name__ == "__main__":
    unittest.main()
