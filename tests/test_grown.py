"""Grown contexts, types and terms, against the slow reading."""

import unittest

import plain
import plain_closed
from compare import compare_context, compare_term, compare_type, plain_same
from growing import Grower, NoWay, well_named
from isthmus.closed import classes, equivalence, is_equivalence, mass, sections
from isthmus.contexts import MOST
from isthmus.errors import IsthmusError, TooLarge
from isthmus.machine import table
from isthmus.terms import equal_terms
from isthmus.texts import read, write
from isthmus.types import check_type, equal_types

SEEDS = range(60)


class GrownTest(unittest.TestCase):

    def tearDown(self):
        for name in dir(plain):
            if hasattr(getattr(plain, name), "cache_clear"):
                getattr(plain, name).cache_clear()

    def each_seed(self, check):
        """Check what is grown from each seed; tries that lead nowhere, or are too slow to read slowly, are left out."""
        done = 0
        for seed in SEEDS:
            grower = Grower(seed)
            G = grower.context(seed % 4)
            with self.subTest(seed=seed):
                try:
                    check(grower, G)
                    done += 1
                except (NoWay, plain.Skip, plain.Wrong):
                    pass
        self.assertGreater(done, len(SEEDS) // 5)

    def test_contexts(self):
        self.each_seed(lambda grower, G: compare_context(self, G))

    def test_types(self):
        def check(grower, G):
            kinds = []
            for depth in (1, 2, 3):
                grower.left = 150
                kinds.append(grower.kind(G, depth))
                compare_type(self, G, kinds[-1], 5)
            for first in kinds:
                for second in kinds:
                    self.assertEqual(equal_types(G, first, second), plain.equal(G, first, second))

        self.each_seed(check)

    def test_terms(self):
        def check(grower, G):
            for depth in (1, 2):
                grower.left = 300
                A = grower.kind(G, depth)
                self.compare_term(grower, G, A, grower.term(G, A, 3))

        self.each_seed(check)

    def test_ways(self):
        def check(grower, G):
            grower.left = 300
            A = grower.kind(G, 2)
            a, b, p = grower.way(G, A, 3)
            self.compare_term(grower, G, ("ways", A, a, b), p)

        self.each_seed(check)

    def test_meanings_of_terms(self):
        def check(grower, G):
            terms = []
            for depth in (1, 2):
                grower.left = 300
                A = grower.kind(G, depth)
                terms.append(grower.term(G, A, 3))
                compare_term(self, G, terms[-1])
                self.assertEqual(read(write((G, terms[-1]))), (G, terms[-1]))
                terms.append(grower.term(G, A, 2))
            for one in terms:
                for two in terms:
                    self.assertIs(equal_terms(G, one, two), plain_same(G, one, two), (G, one, two))

        self.each_seed(check)

    def test_changed_terms(self):
        """A term and the same with one part changed: equal or not, or the error that is due."""
        def check(grower, G):
            grower.left = 300
            term = grower.term(G, grower.kind(G, 2), 3)
            for _ in range(4):
                other = grower.changed(term)
                if not well_named(other, G):
                    continue
                try:
                    wanted = plain_same(G, term, other)
                except plain.Wrong as error:
                    wanted = error.args[0]
                try:
                    found = equal_terms(G, term, other)
                except TooLarge:
                    continue
                except IsthmusError as error:
                    found = type(error).__name__
                self.assertEqual(found, wanted, (G, term, other))

        self.each_seed(check)

    def test_sections(self):
        def check(grower, G):
            if len(G) > 2:
                raise NoWay
            for depth in (0, 1, 2):
                grower.left = 150
                A = grower.kind(G, depth)
                wanted = plain_closed.meanings(G, A)
                if len(wanted) > MOST:
                    self.assertRaises(TooLarge, sections, G, A)
                    continue
                self.assertEqual(sections(G, A), wanted)
                rows, tracks = table(G, grower.term(G, A, 2))
                self.assertIn((tuple(row[1] for row in rows), tuple(row[3] for row in tracks)), wanted)

        self.each_seed(check)

    def test_closed(self):
        def check(grower, G):
            grower.left = 400
            kinds = [grower.kind((), depth) for depth in (1, 2, 2, 3)]
            for A in kinds:
                self.assertEqual(classes(A), plain_closed.classes(A))
                self.assertEqual(mass(A), plain_closed.mass(A))
                for B in kinds:
                    found = equivalence(A, B)
                    self.assertIs(found is not None, plain_closed.equivalent(A, B), (A, B))
                    if found is not None:
                        self.assertIs(is_equivalence(A, B, found), True)
                        self.assertTrue(plain_closed.is_equivalence(A, B, found))

        self.each_seed(check)

    def compare_term(self, grower, G, A, t):
        """Show a term by the objects from which arrows lead to it; then look at it with one part changed."""
        x = grower.fresh(G)
        shown = ("pairs", x, A, ("ways", A, ("name", x), t))
        if well_named(shown, G):
            compare_type(self, G, shown, 4)
        for _ in range(3):
            self.compare_check(G, ("ways", A, t, grower.changed(t)))

    def compare_check(self, G, kind):
        if not well_named(kind, G):
            return
        try:
            wanted = plain.check(G, kind)
        except plain.Wrong as error:
            wanted = error.args[0]
        try:
            found = check_type(G, kind)
        except TooLarge:
            return
        except IsthmusError as error:
            found = type(error).__name__
        self.assertEqual(found, wanted, (G, kind))


if __name__ == "__main__":
    unittest.main()
