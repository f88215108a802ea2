"""Short names for types and terms, and samples of contexts and types."""


def S(n):
    return ("set", n)


def Z(m):
    return ("sizes", m)


def N(x):
    return ("name", x)


def P(n, k):
    return ("point", n, k)


def Q(m, n):
    return ("size", m, n)


def of(m, t):
    return ("of", m, t)


def const(x, A, t):
    """The map on A that is t everywhere, from A to sizes up to 2."""
    return ("fun", x, A, Z(2), t)


EMPTY = ()
SIZE = (("n", Z(3)),)
POINT = (("n", Z(3)), ("p", of(3, N("n"))))
TWO = (("n", Z(2)), ("m", Z(2)))
WAY = (("n", Z(2)), ("m", Z(2)), ("w", ("ways", Z(2), N("n"), N("m"))))
FAMILY = (("n", Z(2)), ("f", ("maps", "q", of(2, N("n")), Z(2))))
NONE = (("n", S(2)), ("v", S(0)))

CONTEXTS = [
    EMPTY,
    (("a", S(0)),),
    (("a", S(1)),),
    (("abcdefgh", S(4)),),
    (("n", Z(0)),),
    (("n", Z(4)),),
    SIZE,
    POINT,
    TWO,
    WAY,
    FAMILY,
    NONE,
    (("n", S(3)), ("nn", ("ways", S(3), N("n"), P(3, 1))), ("nnn", ("ways", S(3), N("n"), P(3, 2)))),
    (("n", S(3)), ("nn", of(3, ("code", 3, ("ways", S(3), N("n"), P(3, 1))))), ("nnn", S(2))),
    (("a", S(2)), ("ab", S(2)), ("abc", ("ways", S(2), N("a"), N("ab"))), ("d", S(1))),
    (("n", Z(2)), ("p", of(2, N("n"))), ("q", of(2, N("n"))), ("s", ("ways", of(2, N("n")), N("p"), N("q")))),
    (("n", Z(2)), ("e", ("either", of(2, N("n")), Z(1)))),
    (("n", Z(2)), ("c", ("classes", ("pairs", "k", Z(2), ("ways", Z(2), N("k"), N("n")))))),
    (("n", Z(2)), ("w", ("ways", Z(2), N("n"), Q(2, 2)))),
    (("n", Z(2)), ("r", ("pairs", "k", Z(2), ("ways", Z(2), N("k"), N("n"))))),
    (("n", Z(2)), ("g", ("at", "k", Z(2), N("n"), ("maps", "q", of(2, N("k")), of(2, N("k")))))),
    (("x", ("pairs", "k", Z(2), of(2, N("k")))), ("y", of(2, ("first", "k", Z(2), of(2, N("k")), N("x"))))),
]

TYPES = [
    (EMPTY, S(0)), (EMPTY, S(4)), (EMPTY, Z(0)), (EMPTY, Z(3)), (EMPTY, of(3, Q(3, 2))),
    (EMPTY, ("pairs", "k", Z(3), of(3, N("k")))),
    (EMPTY, ("pairs", "k", S(3), S(0))),
    (EMPTY, ("pairs", "k", Z(2), ("maps", "q", of(2, N("k")), Z(2)))),
    (EMPTY, ("maps", "k", S(0), S(0))), (EMPTY, ("maps", "k", S(1), S(0))), (EMPTY, ("maps", "k", S(2), S(3))),
    (EMPTY, ("maps", "k", S(2), Z(2))),
    (EMPTY, ("maps", "k", Z(2), S(2))), (EMPTY, ("maps", "k", Z(2), Z(2))), (EMPTY, ("maps", "k", Z(2), of(2, N("k")))),
    (EMPTY, ("maps", "k", Z(2), ("maps", "q", of(2, N("k")), of(2, N("k"))))),
    (EMPTY, ("maps", "k", Z(2), ("ways", Z(2), N("k"), N("k")))),
    (EMPTY, ("maps", "k", Z(3), ("ways", Z(3), N("k"), N("k")))),
    (EMPTY, ("maps", "p", ("pairs", "k", Z(2), of(2, N("k"))), Z(2))),
    (EMPTY, ("either", Z(2), ("either", S(1), Z(2)))),
    (EMPTY, ("classes", ("pairs", "k", Z(3), of(3, N("k"))))),
    (EMPTY, ("classes", ("maps", "k", S(2), Z(2)))),
    (EMPTY, ("ways", ("maps", "k", S(2), Z(2)), const("k", S(2), Q(2, 2)), const("k", S(2), Q(2, 2)))),
    (EMPTY, ("maps", "p", ("classes", Z(2)), ("pairs", "k", Z(2), of(2, N("k"))))),
    (SIZE, of(3, N("n"))), (SIZE, Z(2)), (SIZE, S(2)),
    (SIZE, ("pairs", "k", of(3, N("n")), of(3, N("n")))),
    (SIZE, ("maps", "k", of(3, N("n")), S(2))), (SIZE, ("maps", "k", S(2), of(3, N("n")))),
    (SIZE, ("maps", "k", of(3, N("n")), Z(1))),
    (SIZE, ("ways", Z(3), N("n"), N("n"))), (SIZE, ("ways", Z(3), N("n"), Q(3, 2))),
    (SIZE, ("either", of(3, N("n")), Z(2))), (SIZE, ("classes", of(3, N("n")))),
    (SIZE, ("classes", ("either", of(3, N("n")), Z(3)))),
    (SIZE, ("at", "k", Z(3), N("n"), ("maps", "q", of(3, N("k")), of(3, N("k"))))),
    (SIZE, ("at", "k", Z(3), Q(3, 3), of(3, N("k")))),
    (POINT, ("ways", of(3, N("n")), N("p"), N("p"))),
    (POINT, ("pairs", "q", of(3, N("n")), ("ways", of(3, N("n")), N("p"), N("q")))),
    (POINT, ("at", "q", of(3, N("n")), N("p"), ("ways", of(3, N("n")), N("q"), N("p")))),
    (TWO, ("maps", "k", of(2, N("n")), of(2, N("m")))), (TWO, ("ways", Z(2), N("n"), N("m"))),
    (TWO, ("pairs", "k", of(2, N("n")), ("maps", "q", of(2, N("m")), Z(1)))),
    (TWO, ("either", ("ways", Z(2), N("n"), N("m")), of(2, N("m")))),
    (WAY, ("ways", ("ways", Z(2), N("n"), N("m")), N("w"), N("w"))),
    (WAY, ("maps", "k", of(2, N("n")), of(2, N("m")))),
    (FAMILY, ("pairs", "q", of(2, N("n")), of(2, ("app", "r", of(2, N("n")), Z(2), N("f"), N("q"))))),
    (FAMILY, ("maps", "q", of(2, N("n")), of(2, ("app", "r", of(2, N("n")), Z(2), N("f"), N("q"))))),
    (FAMILY, ("ways", ("maps", "q", of(2, N("n")), Z(2)), N("f"), N("f"))),
    (FAMILY, ("classes", ("maps", "q", of(2, N("n")), Z(2)))),
    (SIZE, ("pairs", "k", Z(2), ("maps", "q", of(2, N("k")), of(3, N("n"))))),
    (SIZE, ("maps", "k", Z(1), ("pairs", "q", of(3, N("n")), Z(1)))),
]
