"""Compares every answer of the program about a context, a type or a term with the slow reading in plain.py."""

import plain
from isthmus import contexts, machine, terms, types


def compare_context(test, G):
    """Compare places, steps, composites, inverses and identities, all of them."""
    found = plain.places(G)
    test.assertEqual(contexts.places(G), found)
    rows = plain.all_steps(G)
    for g in found:
        test.assertEqual(contexts.stay_step(G, g), plain.rest(G, g))
        for h in found:
            test.assertEqual(contexts.steps(G, g, h), plain.steps(G, g, h))
    for g, h, s in rows:
        test.assertEqual(contexts.back_step(G, g, h, s), plain.back(G, g, h, s))
    for g, h, s in thinned(rows, 40):
        for h2, k, t in thinned([row for row in rows if row[0] == h], 6):
            test.assertEqual(contexts.join_steps(G, (g, h, k), s, t), plain.join(G, g, h, k, s, t))


def compare_type(test, G, A, many=30):
    """Compare what a type is at each place and along each step; of long lists only some are taken."""
    test.assertIsNone(types.check_type(G, A))
    test.assertEqual(types.is_flat(G, A), plain.flat(G, A))
    for g in thinned(plain.places(G), many):
        compare_groupoid(test, G, A, g, many)
    for g, h, s in thinned(plain.all_steps(G), many):
        for a in thinned(plain.objs(G, A, g), 12):
            test.assertEqual(types.act(G, A, g, h, s, a), plain.act(G, A, g, h, s, a))
        for a, b, u in thinned(plain.lines(G, A, g), 12):
            test.assertEqual(types.act_arrow(G, A, g, h, s, (a, b), u), plain.act_arrow(G, A, g, h, s, a, b, u))


def compare_groupoid(test, G, A, g, many):
    found = plain.objs(G, A, g)
    rows = plain.lines(G, A, g)
    test.assertEqual(types.objects(G, A, g), found)
    for a in thinned(found, many):
        test.assertEqual(types.identity(G, A, g, a), plain.ident(G, A, g, a))
        for b in thinned(found, many):
            test.assertEqual(types.arrows(G, A, g, a, b), plain.arrs(G, A, g, a, b))
    for a, b, u in thinned(rows, many):
        test.assertEqual(types.inverse(G, A, g, a, b, u), plain.inv(G, A, g, a, b, u))
        for b2, c, v in thinned([row for row in rows if row[0] == b], 6):
            test.assertEqual(types.compose(G, A, g, (a, b, c), u, v), plain.comp(G, A, g, a, b, c, u, v))


def thinned(rows, many):
    """Return at most so many of the rows, from the first one on, spread evenly."""
    gap = -(-len(rows) // many)
    return rows[::gap] if rows else rows


def compare_term(test, G, t):
    """Compare the type, the objects and the arrows of a term at all places and along all steps."""
    test.assertEqual(terms.type_of(G, t), plain.type_of(G, t))
    objects, arrows = machine.table(G, t)
    test.assertEqual(objects, [(g, plain.val(G, t, g)) for g in plain.places(G)])
    test.assertEqual(arrows, [row + (plain.alo(G, t, *row),) for row in sorted(plain.all_steps(G))])
    for g, a in thinned(objects, 6):
        test.assertEqual(machine.value(G, t, g), a)
    for g, h, s, u in thinned(arrows, 6):
        test.assertEqual(machine.along(G, t, g, h, s), u)


def plain_same(G, t, r):
    """Point 11, by the slow reading."""
    if not plain.equal(G, plain.type_of(G, t), plain.type_of(G, r)):
        return False
    if any(plain.val(G, t, g) != plain.val(G, r, g) for g in plain.places(G)):
        return False
    return all(plain.alo(G, t, *row) == plain.alo(G, r, *row) for row in plain.all_steps(G))
