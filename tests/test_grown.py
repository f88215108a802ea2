"""Grown contexts, types and terms, against the slow reading."""

import unittest

import plain
from compare import compare_context, compare_type
from growing import Grower, NoWay, well_named
from isthmus.errors import IsthmusError, TooLarge
from isthmus.types import check_type, equal_types

SEEDS = range(60)


class GrownTest(unittest.TestCase):

    def tearDown(self):
        for name in dir(plain):
            if hasattr(getattr(plain, name), "cache_clear"):
                getattr(plain, name).cache_clear()

    def each_seed(self, check):
        """Check what is grown from each seed; tries that lead nowhere, or are too slow to read slowly, are left out."""
        done = 0
        for seed in SEEDS:
            grower = Grower(seed)
            G = grower.context(seed % 4)
            with self.subTest(seed=seed):
                try:
                    check(grower, G)
                    done += 1
                except (NoWay, plain.Skip):
                    pass
        self.assertGreater(done, len(SEEDS) // 3)

    def test_contexts(self):
        self.each_seed(lambda grower, G: compare_context(self, G))

    def test_types(self):
        def check(grower, G):
            kinds = []
            for depth in (1, 2, 3):
                grower.left = 150
                kinds.append(grower.kind(G, depth))
                compare_type(self, G, kinds[-1], 5)
            for first in kinds:
                for second in kinds:
                    self.assertEqual(equal_types(G, first, second), plain.equal(G, first, second))

        self.each_seed(check)

    def test_terms(self):
        def check(grower, G):
            for depth in (1, 2):
                grower.left = 300
                A = grower.kind(G, depth)
                self.compare_term(grower, G, A, grower.term(G, A, 3))

        self.each_seed(check)

    def test_ways(self):
        def check(grower, G):
            grower.left = 300
            A = grower.kind(G, 2)
            a, b, p = grower.way(G, A, 3)
            self.compare_term(grower, G, ("ways", A, a, b), p)

        self.each_seed(check)

    def compare_term(self, grower, G, A, t):
        """Show a term by the objects from which arrows lead to it; then look at it with one part changed."""
        x = grower.fresh(G)
        shown = ("pairs", x, A, ("ways", A, ("name", x), t))
        if well_named(shown, G):
            compare_type(self, G, shown, 4)
        for _ in range(3):
            self.compare_check(G, ("ways", A, t, grower.changed(t)))

    def compare_check(self, G, kind):
        if not well_named(kind, G):
            return
        try:
            wanted = plain.check(G, kind)
        except plain.Wrong as error:
            wanted = error.args[0]
        try:
            found = check_type(G, kind)
        except TooLarge:
            return
        except IsthmusError as error:
            found = type(error).__name__
        self.assertEqual(found, wanted, (G, kind))


if __name__ == "__main__":
    unittest.main()
