"""Grows contexts, types and terms, the same ones for the same seed, for comparisons with the slow reading.

What is grown is right by construction; `changed` puts one part in the place of another one, which may be wrong.
"""

import random

import plain
from isthmus.errors import BadName
from isthmus.forms import KINDS, TERMS, check_names

NAMES = ["a", "b", "c", "x", "y", "z", "xy", "names", "abcdefgh", "ab"]
SOURCES = ["given", "app", "applied", "first", "second", "case", "split", "carry", "opened", "item", "only", "eachclass"]


class NoWay(Exception):
    """This try leads nowhere; take another one."""


def names_of(G):
    return tuple(name for name, _ in G)


def well_named(data, G):
    try:
        check_names(data, names_of(G))
    except BadName:
        return False
    return True


def is_part(data):
    return isinstance(data, tuple) and len(data) > 0 and isinstance(data[0], str) and (data[0] in KINDS or data[0] in TERMS)


def parts_of(data, path=()):
    """Return the paths to all types and terms in a type or term."""
    found = [path] if is_part(data) else []
    if isinstance(data, tuple):
        for at, part in enumerate(data):
            found += parts_of(part, path + (at,))
    return found


def part_at(data, path):
    for at in path:
        data = data[at]
    return data


def with_part(data, path, part):
    if not path:
        return part
    at = path[0]
    return data[:at] + (with_part(data[at], path[1:], part),) + data[at + 1:]


class Grower:

    def __init__(self, seed):
        self.dice = random.Random(seed)
        self.left = 0

    def spend(self):
        self.left -= 1
        if self.left < 0:
            raise NoWay

    def fresh(self, G):
        return self.dice.choice([name for name in NAMES if name not in names_of(G)])

    def within(self, G, x, A):
        """The context with one more name, if it stays small."""
        longer = G + ((x, A),)
        try:
            if len(plain.places(longer)) <= 12 and len(plain.all_steps(longer)) <= 40:
                return longer
        except plain.Skip:
            pass
        raise NoWay

    def context(self, many):
        while True:
            G = ()
            try:
                for _ in range(many):
                    self.left = 200
                    G = self.within(G, self.fresh(G), self.kind(G, self.dice.randint(0, 1)))
            except NoWay:
                continue
            if plain.places(G) or self.dice.random() < 0.2:
                return G

    # types

    def kind(self, G, depth):
        for _ in range(8):
            try:
                A = self.any_kind(G, depth)
                small = all(len(plain.objs(G, A, g)) + len(plain.lines(G, A, g)) <= 30 for g in plain.places(G))
            except (NoWay, plain.Skip):
                continue
            if small and well_named(A, G):
                return A
        return ("set", self.dice.randint(0, 3))

    def any_kind(self, G, depth):
        self.spend()
        words = ["set", "sizes", "of", "ways"]
        if depth > 0:
            words += ["of", "pairs", "pairs", "maps", "maps", "either", "classes", "at", "at"]
        word = self.dice.choice(words)
        below = max(depth - 1, 0)
        if word == "set":
            return ("set", self.dice.randint(0, 3))
        if word == "sizes":
            return ("sizes", self.dice.randint(0, 3))
        if word == "of":
            m = self.dice.choice([2, 3])
            return ("of", m, self.term(G, ("sizes", m), below))
        if word == "either":
            return ("either", self.kind(G, below), self.kind(G, below))
        A = self.kind(G, below)
        if word == "classes":
            return ("classes", A)
        if word == "ways":
            return ("ways", A, self.term(G, A, below), self.term(G, A, below))
        x = self.fresh(G)
        B = self.kind(self.within(G, x, A), below)
        if word == "at":
            return ("at", x, A, self.term(G, A, below), B)
        return (word, x, A, B)

    # terms

    def term(self, G, T, depth):
        self.spend()
        tries = [("name", x) for x in names_of(G) * 2] + ["made"] * 3
        if depth > 0:
            tries += SOURCES
        self.dice.shuffle(tries)
        for source in tries:
            try:
                t = source if isinstance(source, tuple) else getattr(self, source)(G, T, depth - 1)
            except NoWay:
                continue
            if well_named(t, G) and plain.equal(G, plain.type_of(G, t), T):
                return t
        raise NoWay

    def made(self, G, T, depth):
        """A term by the word of its type."""
        word, below = T[0], max(depth, 0)
        if word in ("set", "sizes"):
            return self.made_number(G, T, below)
        if word == "pairs":
            a = self.term(G, T[2], below)
            return ("pair",) + T[1:] + (a, self.term(G, ("at", T[1], T[2], a, T[3]), below))
        if word == "maps":
            return ("fun",) + T[1:] + (self.term(self.bound(G, T), T[3], below),)
        if word == "either":
            side = self.dice.randint(0, 1)
            return (("left", "right")[side],) + T[1:] + (self.term(G, T[1 + side], below),)
        if word == "classes":
            return ("class", T[1], self.term(G, T[1], below))
        if word == "ways":
            return self.way(G, T[1], below)[2]
        if word == "at":
            return ("given",) + T[1:4] + (self.term(self.bound(G, T), T[4], below),)
        return self.made_point(G, T, below)

    def made_number(self, G, T, depth):
        word, n = T
        if word == "sizes" and depth > 0 and self.dice.random() < 0.6:
            return ("code", n, self.kind(G, depth)) if n > 1 and self.is_code(G, n) else ("size", n, 0)
        if word == "sizes":
            return ("size", n, self.dice.randint(0, n))
        if n == 2 and depth > 0 and self.dice.random() < 0.4:
            return ("any", self.kind(G, depth))
        if n == 0:
            raise NoWay
        return ("point", n, self.dice.randrange(n))

    def is_code(self, G, n):
        """Whether the type that is grown next may have a code; the dice are turned back."""
        state, left = self.dice.getstate(), self.left
        A = self.kind(G, 1)
        self.left = left
        self.dice.setstate(state)
        return plain.flat(G, A) and all(len(plain.objs(G, A, g)) <= n for g in plain.places(G))

    def made_point(self, G, T, depth):
        _, m, t = T
        if t[0] == "code":
            return ("index", m, t[2], self.term(G, t[2], depth))
        if t[0] == "size" and t[2] > 0:
            return ("point", t[2], self.dice.randrange(t[2]))
        a, b, p = self.way(G, ("sizes", m), depth)
        y = self.fresh(G)
        return ("carry", y, ("sizes", m), ("of", m, ("name", y)), a, b, p, self.term(G, ("of", m, a), depth))

    def bound(self, G, T):
        """The context with the name that a type binds."""
        if T[1] in names_of(G):
            raise NoWay
        return self.within(G, T[1], T[2])

    def given(self, G, T, depth):
        x, A = self.fresh(G), self.kind(G, depth)
        return ("given", x, A, self.term(G, A, depth), self.term(self.within(G, x, A), T, depth))

    def app(self, G, T, depth):
        x, A = self.fresh(G), self.kind(G, depth)
        function = ("fun", x, A, T, self.term(self.within(G, x, A), T, depth))
        return ("app", x, A, T, function, self.term(G, A, depth))

    def chosen(self, G, word):
        """A name of the context whose type has this word."""
        found = [(x, A) for x, A in G if A[0] == word and A[1] not in names_of(G)]
        if not found:
            raise NoWay
        return self.dice.choice(found)

    def applied(self, G, T, depth):
        x, A = self.chosen(G, "maps")
        return ("app",) + A[1:] + (("name", x), self.term(G, A[2], depth))

    def first(self, G, T, depth):
        if self.dice.random() < 0.5:
            x, A = self.chosen(G, "pairs")
            return ("first",) + A[1:] + (("name", x),)
        x = self.fresh(G)
        pairs = ("pairs", x, T, self.kind(self.within(G, x, T), depth))
        return ("first",) + pairs[1:] + (self.made(G, pairs, depth),)

    def second(self, G, T, depth):
        if self.dice.random() < 0.5:
            x, A = self.chosen(G, "pairs")
            return ("second",) + A[1:] + (("name", x),)
        pairs = ("pairs", self.fresh(G), self.kind(G, depth), T)
        self.bound(G, pairs)
        return ("second",) + pairs[1:] + (self.made(G, pairs, depth),)

    def case(self, G, T, depth):
        n = self.dice.randint(1, 3)
        branches = tuple(self.term(G, T, depth) for _ in range(n))
        return ("case", n, self.fresh(G), T, self.term(G, ("set", n), depth), branches)

    def split(self, G, T, depth):
        if self.dice.random() < 0.5:
            A, B = self.chosen(G, "either")[1][1:]
        else:
            A, B = self.kind(G, depth), self.kind(G, depth)
        x, y = self.fresh(G), self.fresh(G)
        left, right = self.term(self.within(G, x, A), T, depth), self.term(self.within(G, y, B), T, depth)
        return ("split", self.fresh(G), A, B, T, x, left, y, right, self.term(G, ("either", A, B), depth))

    def carry(self, G, T, depth):
        A = self.kind(G, depth)
        return ("carry", self.fresh(G), A, T) + self.way(G, A, depth) + (self.term(G, T, depth),)

    def opened(self, G, T, depth):
        if not G:
            raise NoWay
        k = self.dice.randrange(len(G))
        X = G[:k + 1]
        if not well_named(T, X):
            raise NoWay
        try:
            plain.check(X, T)
        except plain.Wrong:
            raise NoWay
        return ("open",) + G[k] + (T, ("fun",) + G[k] + (T, self.term(X, T, depth)))

    def item(self, G, T, depth):
        many = max([len(plain.objs(G, T, g)) for g in plain.places(G)] + [0])
        if many > 4 or not plain.flat(G, T):
            raise NoWay
        return ("item", many, T, self.term(G, ("of", many, ("code", many, T)), depth))

    def only(self, G, T, depth):
        if not plain.flat(G, T) or any(len(plain.objs(G, T, g)) != 1 for g in plain.places(G)):
            raise NoWay
        return ("only", T)

    def eachclass(self, G, T, depth):
        if not plain.flat(G, T):
            raise NoWay
        x, A = self.fresh(G), self.kind(G, depth)
        body = self.term(self.within(G, x, A), T, depth)
        return ("eachclass", x, A, T, body, self.term(G, ("classes", A), depth))

    # ways

    def way(self, G, A, depth):
        """Two terms of a type, and a way between them."""
        self.spend()
        sources = ["stay"]
        if depth > 0:
            sources += ["back", "join", "led", "named", "named"]
            sources += {"sizes": ["exchange"], "pairs": ["pairway"], "maps": ["mapway"]}.get(A[0], []) * 4
        for _ in range(3):
            try:
                found = getattr(self, "way_" + self.dice.choice(sources))(G, A, max(depth - 1, 0))
            except NoWay:
                continue
            if all(well_named(t, G) for t in found):
                return found
        raise NoWay

    def way_stay(self, G, A, depth):
        a = self.term(G, A, depth)
        return a, a, ("stay", A, a)

    def way_back(self, G, A, depth):
        a, b, p = self.way(G, A, depth)
        return b, a, ("back", A, a, b, p)

    def way_join(self, G, A, depth):
        a, b, p = self.way(G, A, depth)
        return b, b, ("join", A, b, a, b, ("back", A, a, b, p), p)

    def way_led(self, G, A, depth):
        x, B = self.fresh(G), self.kind(G, depth)
        a, b, p = self.way(G, B, depth)
        t = self.term(self.within(G, x, B), A, depth)
        return ("given", x, B, a, t), ("given", x, B, b, t), ("led", x, B, A, t, a, b, p)

    def way_named(self, G, A, depth):
        found = [(T[2], T[3], ("name", x)) for x, T in G if T[0] == "ways" and plain.equal(G, T[1], A)]
        if not found:
            raise NoWay
        return self.dice.choice(found)

    def way_exchange(self, G, A, depth):
        m = A[1]
        n = self.dice.randint(0, m)
        points = list(range(n))
        self.dice.shuffle(points)
        x = self.fresh(G)
        y = self.fresh(G + ((x, A),))
        many = ("of", m, ("size", m, n))
        body = ("case", n, y, many, ("name", x), tuple(("point", n, k) for k in points))
        a = ("size", m, n)
        return a, a, ("exchange", m, x, a, a, ("fun", x, many, many, body))

    def way_pairway(self, G, A, depth):
        _, x, L, B = A
        self.bound(G, A)
        a, b, u = self.way(G, L, depth)
        part = self.term(G, ("at", x, L, a, B), depth)
        moved = ("carry", x, L, B, a, b, u, part)
        first, second = ("pair", x, L, B, a, part), ("pair", x, L, B, b, moved)
        return first, second, ("pairway", x, L, B, first, second, u, ("stay", ("at", x, L, b, B), moved))

    def way_mapway(self, G, A, depth):
        _, x, L, B = A
        a, b, p = self.way(self.bound(G, A), B, depth)
        first, second = ("fun", x, L, B, a), ("fun", x, L, B, b)
        return first, second, ("mapway", x, L, B, first, second, p)

    def changed(self, data):
        """The data with one of its parts in the place of another one of its sort."""
        paths = parts_of(data)
        path, other = self.dice.choice(paths), part_at(data, self.dice.choice(paths))
        if (part_at(data, path)[0] in KINDS) != (other[0] in KINDS):
            return data
        return with_part(data, path, other)
