"""A second, slow reading of the document, to compare the program with.

It works on contexts, places and steps as tuples, word by word as points 6 to 13 tell, tries out all candidates
wherever something is listed, and checks every pair of arrows. It shares nothing with the package.
A context here may have a name twice; the last one counts (a type that is met in a longer context).
"""

import itertools
from functools import lru_cache

CANDIDATES = 60000


class Skip(Exception):
    """Too much to try out."""


class Wrong(Exception):
    """What a term or type breaks; the name of the error is its argument."""


def where(G, x):
    for k in reversed(range(len(G))):
        if G[k][0] == x:
            return k
    raise KeyError(x)


# places and steps

@lru_cache(None)
def places(G):
    if not G:
        return [()]
    return [g + (a,) for g in places(G[:-1]) for a in objs(G[:-1], G[-1][1], g)]


@lru_cache(None)
def steps(G, g, h):
    if not G:
        return [()]
    A = G[-1][1]
    found = []
    for s in steps(G[:-1], g[:-1], h[:-1]):
        moved = act(G[:-1], A, g[:-1], h[:-1], s, g[-1])
        found += [s + (u,) for u in arrs(G[:-1], A, h[:-1], moved, h[-1])]
    return found


@lru_cache(None)
def all_steps(G):
    return [(g, h, s) for g in places(G) for h in places(G) for s in steps(G, g, h)]


def rest(G, g):
    return tuple(ident(G[:k], G[k][1], g[:k], g[k]) for k in range(len(G)))


def join(G, g, h, k, s, t):
    if not G:
        return ()
    F, A = G[:-1], G[-1][1]
    before = (g[:-1], h[:-1], k[:-1], s[:-1], t[:-1])
    r = join(F, *before)
    a = act(F, A, g[:-1], h[:-1], s[:-1], g[-1])
    u = act_arrow(F, A, h[:-1], k[:-1], t[:-1], a, h[-1], s[-1])
    x = act(F, A, h[:-1], k[:-1], t[:-1], a)
    y = act(F, A, h[:-1], k[:-1], t[:-1], h[-1])
    return r + (comp(F, A, k[:-1], x, y, k[-1], u, t[-1]),)


def back(G, g, h, s):
    if not G:
        return ()
    F, A = G[:-1], G[-1][1]
    r = back(F, g[:-1], h[:-1], s[:-1])
    a = act(F, A, g[:-1], h[:-1], s[:-1], g[-1])
    w = inv(F, A, h[:-1], a, h[-1], s[-1])
    return r + (act_arrow(F, A, h[:-1], g[:-1], r, h[-1], a, w),)


# types

def over(G, x, A):
    return G + ((x, A),)


def shift(G, x, A, B, g, a, b, u, y):
    """B(i + (u,))(y)"""
    return act(over(G, x, A), B, g + (a,), g + (b,), rest(G, g) + (u,), y)


def shift_arrow(G, x, A, B, g, a, b, u, y, z, v):
    return act_arrow(over(G, x, A), B, g + (a,), g + (b,), rest(G, g) + (u,), y, z, v)


def lift(G, x, A, B, g, h, s, a):
    """The context, places and step s + (1,) from g + (a,)."""
    b = act(G, A, g, h, s, a)
    return over(G, x, A), B, g + (a,), h + (b,), s + (ident(G, A, h, b),)


@lru_cache(None)
def lines(G, A, g):
    found = objs(G, A, g)
    return sorted((a, b, u) for a in found for b in found for u in arrs(G, A, g, a, b))


@lru_cache(None)
def objs(G, T, g):
    word = T[0]
    if word == "set":
        return list(range(T[1]))
    if word == "sizes":
        return list(range(T[1] + 1))
    if word == "of":
        return list(range(val(G, T[2], g)))
    if word == "pairs":
        _, x, A, B = T
        return sorted((a, b) for a in objs(G, A, g) for b in objs(over(G, x, A), B, g + (a,)))
    if word == "maps":
        return sorted(functors(G, T, g))
    if word == "ways":
        _, A, a, b = T
        return arrs(G, A, g, val(G, a, g), val(G, b, g))
    if word == "either":
        return [(0, a) for a in objs(G, T[1], g)] + [(1, b) for b in objs(G, T[2], g)]
    if word == "classes":
        return sorted({least(G, T[1], g, a) for a in objs(G, T[1], g)})
    _, x, A, a, B = T
    return objs(over(G, x, A), B, g + (val(G, a, g),))


def least(G, A, g, a):
    return min(b for b in objs(G, A, g) if arrs(G, A, g, a, b))


def functors(G, T, g):
    _, x, A, B = T
    X = over(G, x, A)
    base = objs(G, A, g)
    links = lines(G, A, g)
    fibres = [objs(X, B, g + (a,)) for a in base]
    found = []
    tried = 0
    for values in itertools.product(*fibres):
        of = dict(zip(base, values))
        options = []
        for a, b, u in links:
            moved = shift(G, x, A, B, g, a, b, u, of[a])
            options.append(arrs(X, B, g + (b,), moved, of[b]))
        for tracks in itertools.product(*options):
            tried += 1
            if tried > CANDIDATES:
                raise Skip
            if is_functor(G, T, g, of, dict(zip(links, tracks))):
                found.append((values, tracks))
        tried += 1
        if tried > CANDIDATES:
            raise Skip
    return found


def is_functor(G, T, g, of, along):
    _, x, A, B = T
    X = over(G, x, A)
    for a in of:
        if along[(a, a, ident(G, A, g, a))] != ident(X, B, g + (a,), of[a]):
            return False
    for a, b, u in along:
        for b2, c, v in along:
            if b2 != b:
                continue
            both = comp(G, A, g, a, b, c, u, v)
            start = shift(G, x, A, B, g, a, b, u, of[a])
            first = shift_arrow(G, x, A, B, g, b, c, v, start, of[b], along[(a, b, u)])
            far = shift(G, x, A, B, g, b, c, v, start)
            near = shift(G, x, A, B, g, b, c, v, of[b])
            if along[(a, c, both)] != comp(X, B, g + (c,), far, near, of[c], first, along[(b, c, v)]):
                return False
    return True


def map_value(G, A, g, f, a):
    return f[0][objs(G, A, g).index(a)]


def map_arrow(G, A, g, f, a, b, u):
    return f[1][lines(G, A, g).index((a, b, u))]


@lru_cache(None)
def arrs(G, T, g, a, b):
    word = T[0]
    if word in ("set", "of", "ways", "classes"):
        return [()] if a == b else []
    if word == "sizes":
        return sorted(itertools.permutations(range(a))) if a == b else []
    if word == "pairs":
        _, x, A, B = T
        X = over(G, x, A)
        return sorted((u, v) for u in arrs(G, A, g, a[0], b[0])
                      for v in arrs(X, B, g + (b[0],), shift(G, x, A, B, g, a[0], b[0], u, a[1]), b[1]))
    if word == "maps":
        return sorted(transformations(G, T, g, a, b))
    if word == "either":
        return arrs(G, T[1 + a[0]], g, a[1], b[1]) if a[0] == b[0] else []
    _, x, A, c, B = T
    return arrs(over(G, x, A), B, g + (val(G, c, g),), a, b)


def transformations(G, T, g, f, k):
    _, x, A, B = T
    X = over(G, x, A)
    base = objs(G, A, g)
    options = [arrs(X, B, g + (a,), map_value(G, A, g, f, a), map_value(G, A, g, k, a)) for a in base]
    size = 1
    for row in options:
        size *= len(row)
    if size > CANDIDATES:
        raise Skip
    return [w for w in itertools.product(*options) if natural(G, T, g, f, k, dict(zip(base, w)))]


def natural(G, T, g, f, k, w):
    _, x, A, B = T
    X = over(G, x, A)
    for a, b, u in lines(G, A, g):
        fa, fb = map_value(G, A, g, f, a), map_value(G, A, g, f, b)
        ka, kb = map_value(G, A, g, k, a), map_value(G, A, g, k, b)
        sfa, ska = shift(G, x, A, B, g, a, b, u, fa), shift(G, x, A, B, g, a, b, u, ka)
        moved = shift_arrow(G, x, A, B, g, a, b, u, fa, ka, w[a])
        one = comp(X, B, g + (b,), sfa, ska, kb, moved, map_arrow(G, A, g, k, a, b, u))
        two = comp(X, B, g + (b,), sfa, fb, kb, map_arrow(G, A, g, f, a, b, u), w[b])
        if one != two:
            return False
    return True


def comp(G, T, g, a, b, c, u, v):
    """v * u"""
    word = T[0]
    if word in ("set", "of", "ways", "classes"):
        return ()
    if word == "sizes":
        return tuple(v[u[k]] for k in range(a))
    if word == "pairs":
        _, x, A, B = T
        X = over(G, x, A)
        moved = shift(G, x, A, B, g, a[0], b[0], u[0], a[1])
        far = shift(G, x, A, B, g, b[0], c[0], v[0], moved)
        near = shift(G, x, A, B, g, b[0], c[0], v[0], b[1])
        first = shift_arrow(G, x, A, B, g, b[0], c[0], v[0], moved, b[1], u[1])
        return (comp(G, A, g, a[0], b[0], c[0], u[0], v[0]), comp(X, B, g + (c[0],), far, near, c[1], first, v[1]))
    if word == "maps":
        _, x, A, B = T
        return tuple(comp(over(G, x, A), B, g + (d,), a[0][k], b[0][k], c[0][k], u[k], v[k])
                     for k, d in enumerate(objs(G, A, g)))
    if word == "either":
        return comp(G, T[1 + a[0]], g, a[1], b[1], c[1], u, v)
    _, x, A, d, B = T
    return comp(over(G, x, A), B, g + (val(G, d, g),), a, b, c, u, v)


def ident(G, T, g, a):
    word = T[0]
    if word in ("set", "of", "ways", "classes"):
        return ()
    if word == "sizes":
        return tuple(range(a))
    if word == "pairs":
        _, x, A, B = T
        return (ident(G, A, g, a[0]), ident(over(G, x, A), B, g + (a[0],), a[1]))
    if word == "maps":
        _, x, A, B = T
        return tuple(ident(over(G, x, A), B, g + (d,), a[0][k]) for k, d in enumerate(objs(G, A, g)))
    if word == "either":
        return ident(G, T[1 + a[0]], g, a[1])
    _, x, A, d, B = T
    return ident(over(G, x, A), B, g + (val(G, d, g),), a)


def inv(G, T, g, a, b, u):
    """The arrow that gives the identity, found by trying."""
    for v in arrs(G, T, g, b, a):
        if comp(G, T, g, a, b, a, u, v) == ident(G, T, g, a):
            return v
    raise AssertionError("no inverse")


@lru_cache(None)
def act(G, T, g, h, s, a):
    word = T[0]
    if word in ("set", "sizes"):
        return a
    if word == "of":
        return alo(G, T[2], g, h, s)[a]
    if word == "pairs":
        _, x, A, B = T
        return (act(G, A, g, h, s, a[0]), act(*lift(G, x, A, B, g, h, s, a[0]), a[1]))
    if word == "maps":
        _, x, A, B = T
        values = {}
        for c in objs(G, A, g):
            values[act(G, A, g, h, s, c)] = act(*lift(G, x, A, B, g, h, s, c), map_value(G, A, g, a, c))
        tracks = {}
        for c, d, u in lines(G, A, g):
            moved = shift(G, x, A, B, g, c, d, u, map_value(G, A, g, a, c))
            key = (act(G, A, g, h, s, c), act(G, A, g, h, s, d), act_arrow(G, A, g, h, s, c, d, u))
            tracks[key] = act_arrow(*lift(G, x, A, B, g, h, s, d), moved, map_value(G, A, g, a, d),
                                    map_arrow(G, A, g, a, c, d, u))
        return (tuple(values[c] for c in objs(G, A, h)), tuple(tracks[key] for key in lines(G, A, h)))
    if word == "ways":
        _, A, b, c = T
        ag, ah, cg, ch = val(G, b, g), val(G, b, h), val(G, c, g), val(G, c, h)
        near, far = act(G, A, g, h, s, ag), act(G, A, g, h, s, cg)
        r = inv(G, A, h, near, ah, alo(G, b, g, h, s))
        u = comp(G, A, h, ah, near, far, r, act_arrow(G, A, g, h, s, ag, cg, a))
        return comp(G, A, h, ah, far, ch, u, alo(G, c, g, h, s))
    if word == "either":
        return (a[0], act(G, T[1 + a[0]], g, h, s, a[1]))
    if word == "classes":
        return least(G, T[1], h, act(G, T[1], g, h, s, a))
    _, x, A, d, B = T
    return act(*with_term(G, x, A, B, d, g, h, s), a)


def with_term(G, x, A, B, d, g, h, s):
    return over(G, x, A), B, g + (val(G, d, g),), h + (val(G, d, h),), s + (alo(G, d, g, h, s),)


@lru_cache(None)
def act_arrow(G, T, g, h, s, a, b, u):
    word = T[0]
    if word in ("of", "ways", "classes"):
        return ()
    if word in ("set", "sizes"):
        return u
    if word == "pairs":
        _, x, A, B = T
        moved = shift(G, x, A, B, g, a[0], b[0], u[0], a[1])
        return (act_arrow(G, A, g, h, s, a[0], b[0], u[0]),
                act_arrow(*lift(G, x, A, B, g, h, s, b[0]), moved, b[1], u[1]))
    if word == "maps":
        _, x, A, B = T
        made = {}
        for k, c in enumerate(objs(G, A, g)):
            made[act(G, A, g, h, s, c)] = act_arrow(*lift(G, x, A, B, g, h, s, c), a[0][k], b[0][k], u[k])
        return tuple(made[c] for c in objs(G, A, h))
    if word == "either":
        return act_arrow(G, T[1 + a[0]], g, h, s, a[1], b[1], u)
    _, x, A, d, B = T
    return act_arrow(*with_term(G, x, A, B, d, g, h, s), a, b, u)


# terms

@lru_cache(None)
def val(G, t, g):
    word = t[0]
    if word == "name":
        return g[where(G, t[1])]
    if word in ("point", "size"):
        return t[2]
    if word == "case":
        return val(G, t[5][val(G, t[4], g)], g)
    if word == "code":
        return len(objs(G, t[2], g))
    if word == "index":
        return objs(G, t[2], g).index(val(G, t[3], g))
    if word == "item":
        return objs(G, t[2], g)[val(G, t[3], g)]
    if word == "pair":
        return (val(G, t[4], g), val(G, t[5], g))
    if word in ("first", "second"):
        return val(G, t[4], g)[0 if word == "first" else 1]
    if word == "fun":
        _, x, A, B, b = t
        X = over(G, x, A)
        i = rest(G, g)
        return (tuple(val(X, b, g + (a,)) for a in objs(G, A, g)),
                tuple(alo(X, b, g + (a,), g + (c,), i + (u,)) for a, c, u in lines(G, A, g)))
    if word == "app":
        return map_value(G, t[2], g, val(G, t[4], g), val(G, t[5], g))
    if word == "open":
        _, x, A, B, f = t
        k = where(G, x)
        return map_value(G[:k], A, g[:k], val(G[:k], f, g[:k]), g[k])
    return val_way(G, t, g)


def val_way(G, t, g):
    word = t[0]
    if word == "stay":
        return ident(G, t[1], g, val(G, t[2], g))
    if word == "back":
        return inv(G, t[1], g, *[val(G, p, g) for p in t[2:]])
    if word == "join":
        return comp(G, t[1], g, *[val(G, p, g) for p in t[2:]])
    if word == "led":
        _, x, A, C, b, c, d, p = t
        return alo(over(G, x, A), b, g + (val(G, c, g),), g + (val(G, d, g),), rest(G, g) + (val(G, p, g),))
    if word == "carry":
        _, x, A, B, c, d, p, b = t
        return shift(G, x, A, B, g, val(G, c, g), val(G, d, g), val(G, p, g), val(G, b, g))
    if word == "pairway":
        return (val(G, t[6], g), val(G, t[7], g))
    if word == "mapway":
        _, x, A, B, f, k, w = t
        return tuple(val(over(G, x, A), w, g + (a,)) for a in objs(G, A, g))
    if word == "exchange":
        return val(G, t[5], g)[0]
    return val_other(G, t, g)


def val_other(G, t, g):
    word = t[0]
    if word == "any":
        return 1 if objs(G, t[1], g) else 0
    if word == "only":
        return objs(G, t[1], g)[0]
    if word == "class":
        return least(G, t[1], g, val(G, t[2], g))
    if word == "eachclass":
        _, x, A, C, b, c = t
        return val(over(G, x, A), b, g + (val(G, c, g),))
    if word in ("left", "right"):
        return (0 if word == "left" else 1, val(G, t[3], g))
    if word == "split":
        _, z, A, B, C, x, b, y, r, e = t
        side, a = val(G, e, g)
        return val(over(G, x, A), b, g + (a,)) if side == 0 else val(over(G, y, B), r, g + (a,))
    assert word == "given", word
    _, x, A, a, b = t
    return val(over(G, x, A), b, g + (val(G, a, g),))


def applied(F, x, A, B, f, g, h, s, a, b, u):
    """The arrow of a map f of F, along the step s of F, at the arrow u to b from what A(s) makes of a."""
    c = act(F, A, g, h, s, a)
    fg, fh = val(F, f, g), val(F, f, h)
    moved = act(F, ("maps", x, A, B), g, h, s, fg)
    w = alo(F, f, g, h, s)[objs(F, A, h).index(c)]
    near, far = map_value(F, A, h, moved, c), map_value(F, A, h, fh, c)
    first = shift_arrow(F, x, A, B, h, c, b, u, near, far, w)
    return comp(over(F, x, A), B, h + (b,), shift(F, x, A, B, h, c, b, u, near), shift(F, x, A, B, h, c, b, u, far),
                map_value(F, A, h, fh, b), first, map_arrow(F, A, h, fh, c, b, u))


@lru_cache(None)
def alo(G, t, g, h, s):
    word = t[0]
    if word == "name":
        return s[where(G, t[1])]
    if word == "case":
        return alo(G, t[5][val(G, t[4], g)], g, h, s)
    if word == "size":
        return tuple(range(t[2]))
    if word == "code":
        there = objs(G, t[2], h)
        return tuple(there.index(act(G, t[2], g, h, s, a)) for a in objs(G, t[2], g))
    if word in ("item", "only", "eachclass"):
        A = t[{"only": 1, "item": 2, "eachclass": 3}[word]]
        return ident(G, A, h, val(G, t, h))
    if word == "pair":
        return (alo(G, t[4], g, h, s), alo(G, t[5], g, h, s))
    if word in ("first", "second"):
        return alo(G, t[4], g, h, s)[0 if word == "first" else 1]
    if word == "fun":
        _, x, A, B, b = t
        made = {}
        for a in objs(G, A, g):
            made[act(G, A, g, h, s, a)] = alo(*lift(G, x, A, b, g, h, s, a))
        return tuple(made[a] for a in objs(G, A, h))
    if word == "app":
        _, x, A, B, f, a = t
        return applied(G, x, A, B, f, g, h, s, val(G, a, g), val(G, a, h), alo(G, a, g, h, s))
    if word == "open":
        _, x, A, B, f = t
        k = where(G, x)
        return applied(G[:k], x, A, B, f, g[:k], h[:k], s[:k], g[k], h[k], s[k])
    if word == "carry":
        _, x, A, B, c, d, p, b = t
        moved = act(*with_term(G, x, A, B, c, g, h, s), val(G, b, g))
        return shift_arrow(G, x, A, B, h, val(G, c, h), val(G, d, h), val(G, p, h), moved, val(G, b, h),
                           alo(G, b, g, h, s))
    if word in ("left", "right"):
        return alo(G, t[3], g, h, s)
    if word == "split":
        _, z, A, B, C, x, b, y, r, e = t
        side, a = val(G, e, g)
        c = val(G, e, h)[1]
        X, b = (over(G, x, A), b) if side == 0 else (over(G, y, B), r)
        return alo(X, b, g + (a,), h + (c,), s + (alo(G, e, g, h, s),))
    if word == "given":
        _, x, A, a, b = t
        return alo(*with_term(G, x, A, b, a, g, h, s))
    assert word in ("point", "index", "stay", "back", "join", "led", "pairway", "mapway", "exchange", "any", "class")
    return ()


# equal types, flat types

@lru_cache(None)
def equal(G, A, B):
    if A == B:
        return True
    for g in places(G):
        if objs(G, A, g) != objs(G, B, g) or lines(G, A, g) != lines(G, B, g):
            return False
        rows = lines(G, A, g)
        for a, b, u in rows:
            for b2, c, v in rows:
                if b2 == b and comp(G, A, g, a, b, c, u, v) != comp(G, B, g, a, b, c, u, v):
                    return False
    for g, h, s in all_steps(G):
        for a in objs(G, A, g):
            if act(G, A, g, h, s, a) != act(G, B, g, h, s, a):
                return False
        for a, b, u in lines(G, A, g):
            if act_arrow(G, A, g, h, s, a, b, u) != act_arrow(G, B, g, h, s, a, b, u):
                return False
    return True


def discrete(G, A, g):
    return all(a == b and u == ident(G, A, g, a) for a, b, u in lines(G, A, g))


def flat(G, A):
    return all(discrete(G, A, g) for g in places(G))


# the types of terms

def need(G, t, A):
    if not equal(G, type_of(G, t), A):
        raise Wrong("WrongType")


def need_small(G, m, A):
    check(G, A)
    if not flat(G, A):
        raise Wrong("NotFlat")
    if any(len(objs(G, A, g)) > m for g in places(G)):
        raise Wrong("NotSmall")


@lru_cache(None)
def check(G, T):
    word = T[0]
    if word == "of":
        need(G, T[2], ("sizes", T[1]))
    elif word in ("pairs", "maps"):
        check(G, T[2])
        check(over(G, T[1], T[2]), T[3])
    elif word == "ways":
        check(G, T[1])
        need(G, T[2], T[1])
        need(G, T[3], T[1])
    elif word in ("either", "classes"):
        for A in T[1:]:
            check(G, A)
    elif word == "at":
        _, x, A, a, B = T
        check(G, A)
        need(G, a, A)
        check(over(G, x, A), B)


@lru_cache(None)
def type_of(G, t):
    word = t[0]
    if word == "name":
        return G[where(G, t[1])][1]
    if word == "point":
        return ("set", t[1])
    if word == "size":
        return ("sizes", t[1])
    if word == "case":
        _, n, x, C, b, branches = t
        check(over(G, x, ("set", n)), C)
        need(G, b, ("set", n))
        for k, branch in enumerate(branches):
            need(G, branch, ("at", x, ("set", n), ("point", n, k), C))
        return ("at", x, ("set", n), b, C)
    if word == "code":
        need_small(G, t[1], t[2])
        return ("sizes", t[1])
    if word == "index":
        need_small(G, t[1], t[2])
        need(G, t[3], t[2])
        return ("of", t[1], ("code", t[1], t[2]))
    if word == "item":
        need_small(G, t[1], t[2])
        need(G, t[3], ("of", t[1], ("code", t[1], t[2])))
        return t[2]
    if word in ("pair", "first", "second", "fun", "app", "open"):
        return type_of_family(G, t)
    if word in ("stay", "back", "join", "led", "carry", "pairway", "mapway", "exchange"):
        return type_of_way(G, t)
    return type_of_other(G, t)


def type_of_family(G, t):
    word, x, A, B = t[:4]
    if word == "open":
        k = where(G, x)
        F = G[:k]
        check(F, A)
        if not equal(F, G[k][1], A):
            raise Wrong("WrongType")
        check(over(F, x, A), B)
        need(F, t[4], ("maps", x, A, B))
        return B
    check(G, A)
    check(over(G, x, A), B)
    if word == "pair":
        need(G, t[4], A)
        need(G, t[5], ("at", x, A, t[4], B))
        return ("pairs", x, A, B)
    if word in ("first", "second"):
        need(G, t[4], ("pairs", x, A, B))
        return A if word == "first" else ("at", x, A, ("first",) + t[1:], B)
    if word == "fun":
        need(over(G, x, A), t[4], B)
        return ("maps", x, A, B)
    need(G, t[4], ("maps", x, A, B))
    need(G, t[5], A)
    return ("at", x, A, t[5], B)


def type_of_way(G, t):
    word = t[0]
    if word == "stay":
        check(G, t[1])
        need(G, t[2], t[1])
        return ("ways", t[1], t[2], t[2])
    if word == "back":
        _, A, a, b, p = t
        check(G, ("ways", A, a, b))
        need(G, p, ("ways", A, a, b))
        return ("ways", A, b, a)
    if word == "join":
        _, A, a, b, c, p, q = t
        check(G, ("ways", A, a, b))
        check(G, ("ways", A, b, c))
        need(G, p, ("ways", A, a, b))
        need(G, q, ("ways", A, b, c))
        return ("ways", A, a, c)
    if word == "led":
        _, x, A, C, b, a, c, p = t
        check(G, A)
        check(G, C)
        need(over(G, x, A), b, C)
        check(G, ("ways", A, a, c))
        need(G, p, ("ways", A, a, c))
        return ("ways", C, ("given", x, A, a, b), ("given", x, A, c, b))
    if word == "exchange":
        return type_of_exchange(G, t)
    _, x, A, B = t[:4]
    check(G, A)
    check(over(G, x, A), B)
    if word == "carry":
        _, x, A, B, a, b, p, c = t
        check(G, ("ways", A, a, b))
        need(G, p, ("ways", A, a, b))
        need(G, c, ("at", x, A, a, B))
        return ("at", x, A, b, B)
    if word == "pairway":
        _, x, A, B, p, q, u, v = t
        need(G, p, ("pairs", x, A, B))
        need(G, q, ("pairs", x, A, B))
        c, d = ("first", x, A, B, p), ("first", x, A, B, q)
        need(G, u, ("ways", A, c, d))
        need(G, v, ("ways", ("at", x, A, d, B), ("carry", x, A, B, c, d, u, ("second", x, A, B, p)),
                    ("second", x, A, B, q)))
        return ("ways", ("pairs", x, A, B), p, q)
    _, x, A, B, f, k, w = t
    need(G, f, ("maps", x, A, B))
    need(G, k, ("maps", x, A, B))
    need(over(G, x, A), w, ("ways", B, ("open", x, A, B, f), ("open", x, A, B, k)))
    return ("ways", ("maps", x, A, B), f, k)


def type_of_exchange(G, t):
    _, m, x, a, b, f = t
    need(G, a, ("sizes", m))
    need(G, b, ("sizes", m))
    need(G, f, ("maps", x, ("of", m, a), ("of", m, b)))
    for g in places(G):
        if sorted(val(G, f, g)[0]) != list(range(val(G, b, g))):
            raise Wrong("NotExchange")
    return ("ways", ("sizes", m), a, b)


def type_of_other(G, t):
    word = t[0]
    if word == "any":
        check(G, t[1])
        return ("set", 2)
    if word == "only":
        check(G, t[1])
        if any(len(objs(G, t[1], g)) != 1 or not discrete(G, t[1], g) for g in places(G)):
            raise Wrong("NotOnly")
        return t[1]
    if word == "class":
        check(G, t[1])
        need(G, t[2], t[1])
        return ("classes", t[1])
    if word == "eachclass":
        _, x, A, C, b, c = t
        check(G, A)
        check(G, C)
        if not flat(G, C):
            raise Wrong("NotFlat")
        need(over(G, x, A), b, C)
        need(G, c, ("classes", A))
        return C
    if word in ("left", "right"):
        check(G, t[1])
        check(G, t[2])
        need(G, t[3], t[1] if word == "left" else t[2])
        return ("either", t[1], t[2])
    if word == "split":
        _, z, A, B, C, x, b, y, r, e = t
        E = ("either", A, B)
        check(G, E)
        check(over(G, z, E), C)
        need(over(G, x, A), b, ("at", z, E, ("left", A, B, ("name", x)), C))
        need(over(G, y, B), r, ("at", z, E, ("right", A, B, ("name", y)), C))
        need(G, e, E)
        return ("at", z, E, e, C)
    assert word == "given", word
    _, x, A, a, b = t
    check(G, A)
    need(G, a, A)
    return ("at", x, A, a, type_of(over(G, x, A), b))
