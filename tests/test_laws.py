"""The laws of groupoids and of actions (points 3, 4 and 8), asked of the program's own answers."""

import unittest

from compare import thinned
from isthmus.contexts import join_steps, places, stay_step, steps
from isthmus.types import act, act_arrow, arrows, compose, identity, inverse, objects
from short import TYPES


def lines(context, kind, place):
    found = objects(context, kind, place)
    return [(a, b, u) for a in found for b in found for u in arrows(context, kind, place, a, b)]


class GroupoidLawsTest(unittest.TestCase):

    def check_place(self, context, kind, place):
        rows = lines(context, kind, place)
        for a, b, u in thinned(rows, 20):
            rest = identity(context, kind, place, a)
            self.assertEqual(compose(context, kind, place, (a, a, b), rest, u), u)
            self.assertEqual(compose(context, kind, place, (a, b, b), u, identity(context, kind, place, b)), u)
            back = inverse(context, kind, place, a, b, u)
            self.assertIn(back, arrows(context, kind, place, b, a))
            self.assertEqual(compose(context, kind, place, (a, b, a), u, back), rest)
            self.assertEqual(inverse(context, kind, place, b, a, back), u)
            for b2, c, v in thinned([row for row in rows if row[0] == b], 4):
                self.assertIn(compose(context, kind, place, (a, b, c), u, v), arrows(context, kind, place, a, c))
                for c2, d, w in thinned([row for row in rows if row[0] == c][1:], 2):
                    one = compose(context, kind, place, (a, c, d), compose(context, kind, place, (a, b, c), u, v), w)
                    two = compose(context, kind, place, (a, b, d), u, compose(context, kind, place, (b, c, d), v, w))
                    self.assertEqual(one, two)

    def test_all_types(self):
        for context, kind in TYPES:
            with self.subTest(context=context, kind=kind):
                for place in thinned(places(context), 4):
                    self.check_place(context, kind, place)


class ActionLawsTest(unittest.TestCase):

    def check_step(self, context, kind, g, h, s):
        rows = lines(context, kind, g)
        image = {a: act(context, kind, g, h, s, a) for a in objects(context, kind, g)}
        self.assertEqual(sorted(image.values()), objects(context, kind, h))
        moved = {}
        for a, b, u in thinned(rows, 60):
            moved[(a, b, u)] = act_arrow(context, kind, g, h, s, (a, b), u)
            self.assertIn(moved[(a, b, u)], arrows(context, kind, h, image[a], image[b]))
        self.assertEqual(len({(image[a], image[b], moved[(a, b, u)]) for a, b, u in moved}), len(moved))
        for a in image:
            rest = act_arrow(context, kind, g, h, s, (a, a), identity(context, kind, g, a))
            self.assertEqual(rest, identity(context, kind, h, image[a]))
        for a, b, u in thinned(list(moved), 8):
            for b2, c, v in thinned([row for row in moved if row[0] == b], 3):
                both = compose(context, kind, g, (a, b, c), u, v)
                ends = (image[a], image[b], image[c])
                self.assertEqual(act_arrow(context, kind, g, h, s, (a, c), both),
                                 compose(context, kind, h, ends, moved[(a, b, u)], moved[(b, c, v)]))

    def check_composite(self, context, kind, g, h, k, s, t):
        both = join_steps(context, (g, h, k), s, t)
        for a in thinned(objects(context, kind, g), 4):
            one = act(context, kind, g, h, s, a)
            self.assertEqual(act(context, kind, g, k, both, a), act(context, kind, h, k, t, one))
        for a, b, u in thinned(lines(context, kind, g), 4):
            ends = (act(context, kind, g, h, s, a), act(context, kind, g, h, s, b))
            one = act_arrow(context, kind, g, h, s, (a, b), u)
            self.assertEqual(act_arrow(context, kind, g, k, both, (a, b), u),
                             act_arrow(context, kind, h, k, t, ends, one))

    def test_all_types(self):
        for context, kind in TYPES:
            with self.subTest(context=context, kind=kind):
                found = places(context)
                rows = [(g, h, s) for g in found for h in found for s in steps(context, g, h)]
                for g, h, s in thinned(rows, 5):
                    self.check_step(context, kind, g, h, s)
                    for h2, k, t in thinned([row for row in rows if row[0] == h], 3):
                        self.check_composite(context, kind, g, h, k, s, t)

    def test_identity_steps_change_nothing(self):
        for context, kind in TYPES:
            for place in thinned(places(context), 3):
                rest = stay_step(context, place)
                for a, b, u in thinned(lines(context, kind, place), 5):
                    self.assertEqual(act(context, kind, place, place, rest, a), a)
                    self.assertEqual(act_arrow(context, kind, place, place, rest, (a, b), u), u)


if __name__ == "__main__":
    unittest.main()
