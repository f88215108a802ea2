"""Lists are ascending and new, and what is passed stays as it was (points 2 and 5)."""

import unittest

from isthmus.contexts import places, steps
from isthmus.types import arrows, check_type, compose, objects
from short import CONTEXTS, EMPTY, N, Q, SIZE, TYPES, Z, of


class ListsTest(unittest.TestCase):

    def assert_new(self, ask, *args):
        """Change what is returned in each way, and ask again."""
        first = ask(*args)
        kept = list(first)
        self.assertIsInstance(first, list)
        self.assertEqual(kept, sorted(kept))
        self.assertEqual(len(kept), len(set(kept)))
        first.append("more")
        self.assertEqual(ask(*args), kept)
        second = ask(*args)
        second.clear()
        self.assertEqual(ask(*args), kept)
        self.assertIsNot(ask(*args), ask(*args))

    def test_places_and_steps(self):
        for context in CONTEXTS:
            self.assert_new(places, context)
            for place in places(context)[:6]:
                self.assert_new(steps, context, place, place)

    def test_objects_and_arrows(self):
        for context, kind in TYPES:
            for place in places(context)[-2:]:
                self.assert_new(objects, context, kind, place)
                for thing in objects(context, kind, place)[-2:]:
                    self.assert_new(arrows, context, kind, place, thing, thing)

    def test_arrows_by_source_target_and_data(self):
        # The order of the arrows of a map is that of (source, target, arrow).
        kind = ("maps", "p", ("pairs", "k", Z(2), of(2, N("k"))), Z(2))
        turned = [thing for thing in objects(EMPTY, kind, ()) if thing[0] == (0, 2, 2)]
        self.assertEqual([thing[1] for thing in turned],
                         [((), (0, 1), (0, 1), (0, 1), (0, 1)), ((), (0, 1), (1, 0), (1, 0), (0, 1))])

    def test_what_is_passed_stays(self):
        for context, kind in TYPES:
            kept = repr((context, kind))
            for place in places(context)[-1:]:
                told = repr(place)
                things = objects(context, kind, place)[-1:]
                for thing in things:
                    arrows(context, kind, place, thing, thing)
                    self.assertEqual(things, [thing])
                self.assertEqual(repr(place), told)
            self.assertEqual(repr((context, kind)), kept)

    def test_plain_kinds_of_values(self):
        for thing in (compose(SIZE, Z(3), (1,), (2, 2, 2), (1, 0), (0, 1)), objects(SIZE, of(3, Q(3, 2)), (1,))[0]):
            self.assertIn(type(thing), (int, tuple))
        self.assertIsNone(check_type(SIZE, Z(3)))


if __name__ == "__main__":
    unittest.main()
