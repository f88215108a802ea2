"""A slow reading of points 8, 16 and 17, on top of that in plain.py: everything is tried out, nothing is shared."""

import itertools
from fractions import Fraction

import plain

TRIES = 20000


def meanings(G, A):
    """All pairs (objects, arrows) that point 8 allows for a term of the type A, ascending."""
    found = []
    places = plain.places(G)
    rows = sorted(plain.all_steps(G))
    triples = step_triples(G, rows)
    budget = [TRIES]
    for objects in itertools.product(*[plain.objs(G, A, g) for g in places]):
        of = dict(zip(places, objects))
        found += [(objects, tracks) for tracks in tracks_over(G, A, of, rows, triples, budget)]
    return sorted(found)


def step_triples(G, rows):
    """For each position the pairs of steps whose composite stands there or behind which one of the pair does."""
    at = {row: k for k, row in enumerate(rows)}
    triples = [[] for _ in rows]
    for g, h, s in rows:
        for h2, k, t in rows:
            if h2 == h:
                both = (g, k, plain.join(G, g, h, k, s, t))
                last = max(at[(g, h, s)], at[(h, k, t)], at[both])
                triples[last].append(((g, h, s), (h, k, t), both))
    return triples


def tracks_over(G, A, of, rows, triples, budget):
    """The ways to choose an arrow along each step, such that identities and composites are kept."""
    budget[0] -= 1
    found = [()]
    for k, (g, h, s) in enumerate(rows):
        options = plain.arrs(G, A, h, plain.act(G, A, g, h, s, of[g]), of[h])
        if g == h and s == plain.rest(G, g):
            options = [plain.ident(G, A, g, of[g])]
        longer = []
        for tracks in found:
            budget[0] -= len(options) * (1 + len(triples[k]))
            if budget[0] < 0:
                raise plain.Skip
            longer += [tracks + (u,) for u in options if composites_kept(G, A, of, rows, tracks + (u,), triples[k])]
        found = longer
        if not found:
            break
    return found


def composites_kept(G, A, of, rows, tracks, triples):
    along = dict(zip(rows, tracks))
    for (g, h, s), (h2, k, t), both in triples:
        start = plain.act(G, A, g, h, s, of[g])
        first = plain.act_arrow(G, A, h, k, t, start, of[h], along[(g, h, s)])
        far, near = plain.act(G, A, h, k, t, start), plain.act(G, A, h, k, t, of[h])
        if along[both] != plain.comp(G, A, k, far, near, of[k], first, along[(h, k, t)]):
            return False
    return True


def classes(A):
    found = {plain.least((), A, (), a) for a in plain.objs((), A, ())}
    return sorted((a, len(plain.arrs((), A, (), a, a))) for a in found)


def mass(A):
    total = sum((Fraction(1, n) for _, n in classes(A)), Fraction(0))
    return (total.numerator, total.denominator)


def group(A, a):
    """The arrows from an object to itself, and the dict of their composites."""
    arrows = plain.arrs((), A, (), a, a)
    return arrows, {(u, v): plain.comp((), A, (), a, a, a, u, v) for u in arrows for v in arrows}


def isomorphic(first, second):
    """Whether two groups are, by trying out all images of the elements one by one."""
    (arrows, product), (others, both) = first, second
    if len(arrows) != len(others):
        return False
    found = [{}]
    for k, u in enumerate(arrows):
        longer = []
        for images in found:
            for v in others:
                if v not in images.values():
                    more = dict(images)
                    more[u] = v
                    if keeps(product, both, more, u):
                        longer.append(more)
        found = longer
        if len(found) > TRIES:
            raise plain.Skip
    return bool(found)


def keeps(product, both, images, u):
    for a in images:
        for b, c in ((a, u), (u, a)):
            made = product[(b, c)]
            if made in images and images[made] != both[(images[b], images[c])]:
                return False
    return True


def equivalent(A, B):
    """Whether the classes can be paired such that the groups are isomorphic (point 17)."""
    left = [group(B, b) for b, _ in classes(B)]
    for a, _ in classes(A):
        here = group(A, a)
        for k, there in enumerate(left):
            if isomorphic(here, there):
                del left[k]
                break
        else:
            return False
    return not left


def is_equivalence(A, B, F):
    """The words of point 17; F must be an object of the maps, told by plain.py."""
    rows, links = plain.objs((), A, ()), plain.lines((), A, ())
    if not (isinstance(F, tuple) and len(F) == 2 and all(isinstance(part, tuple) for part in F)):
        return False
    if len(F[0]) != len(rows) or len(F[1]) != len(links):
        return False
    of, along = dict(zip(rows, F[0])), dict(zip(links, F[1]))
    there = plain.objs((), B, ())
    if not all(b in there for b in F[0]):
        return False
    if not all(along[(a, b, u)] in plain.arrs((), B, (), of[a], of[b]) for a, b, u in links):
        return False
    if not plain.is_functor((), ("maps", "x", A, B), (), of, along):
        return False
    for a in rows:
        for b in rows:
            images = [along[(a, b, u)] for u in plain.arrs((), A, (), a, b)]
            if sorted(images) != plain.arrs((), B, (), of[a], of[b]):
                return False
    return all(any(plain.arrs((), B, (), of[a], b) for a in rows) for b in there)
