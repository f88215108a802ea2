"""Samples of all forms of terms: (context, term, the type that point 13 writes)."""

from short import EMPTY, FAMILY, N, NONE, P, POINT, Q, S, SIZE, TWO, WAY, Z, of

SIZE2 = (("n", Z(2)),)
POINT2 = (("n", Z(2)), ("p", of(2, N("n"))))
BIT = (("b", S(2)),)
EITHER = (("n", Z(2)), ("e", ("either", of(2, N("n")), Z(1))))
PAIRED = (("r", ("pairs", "k", Z(2), of(2, N("k")))),)
CLASSED = (("n", Z(2)), ("c", ("classes", ("pairs", "k", of(2, N("n")), S(2)))))
FOUND = (("n", Z(2)), ("m", Z(2)), ("w", ("ways", Z(2), N("n"), N("m"))), ("p", of(2, N("n"))))
ALONE = (("b", S(2)), ("v", ("ways", S(2), N("b"), P(2, 1))))

POINTED = ("pairs", "k", Z(2), of(2, N("k")))
MARKED = ("maps", "q", of(2, N("n")), S(2))
HANGING = of(2, ("case", 2, "y", Z(2), N("x"), (Q(2, 1), Q(2, 2))))
FLIP = ("fun", "q", S(2), S(2), ("case", 2, "i", S(2), N("q"), (P(2, 1), P(2, 0))))
SWAP = ("exchange", 2, "q", Q(2, 2), Q(2, 2), FLIP)
TURN = ("exchange", 3, "q", Q(3, 3), Q(3, 3),
        ("fun", "q", S(3), S(3), ("case", 3, "i", S(3), N("q"), (P(3, 1), P(3, 2), P(3, 0)))))
PAIR = ("pair", "k", Z(2), of(2, N("k")), N("n"), N("p"))
WAYS = ("ways", Z(2), N("n"), N("m"))


def given_ways(x, A, C, t, a, b):
    return ("ways", C, ("given", x, A, a, t), ("given", x, A, b, t))


NAMES = [
    (TWO, N("n"), Z(2)), (TWO, N("m"), Z(2)), (POINT, N("p"), of(3, N("n"))), (WAY, N("w"), WAYS),
    (FAMILY, N("f"), ("maps", "q", of(2, N("n")), Z(2))), (PAIRED, N("r"), POINTED), (EITHER, N("e"), EITHER[1][1]),
    (CLASSED, N("c"), CLASSED[1][1]), (NONE, N("n"), S(2)), (NONE, N("v"), S(0)), ((("a", S(0)),), N("a"), S(0)),
    ((("abcdefgh", S(4)),), N("abcdefgh"), S(4)), ((("n", Z(4)),), N("n"), Z(4)),
    ((("n", Z(2)), ("g", ("at", "k", Z(2), N("n"), of(2, N("k"))))), N("g"), ("at", "k", Z(2), N("n"), of(2, N("k")))),
]

PLAIN = [
    (EMPTY, P(1, 0), S(1)), (EMPTY, P(4, 3), S(4)), (SIZE, P(3, 0), S(3)), (NONE, P(2, 1), S(2)),
    (EMPTY, Q(0, 0), Z(0)), (EMPTY, Q(4, 4), Z(4)), (EMPTY, Q(3, 0), Z(3)), (SIZE, Q(2, 1), Z(2)),
    (NONE, ("case", 0, "x", Z(2), N("v"), ()), ("at", "x", S(0), N("v"), Z(2))),
    (NONE, ("case", 0, "x", ("ways", S(0), N("x"), N("x")), N("v"), ()),
     ("at", "x", S(0), N("v"), ("ways", S(0), N("x"), N("x")))),
    (EMPTY, ("case", 1, "x", S(3), P(1, 0), (P(3, 2),)), ("at", "x", S(1), P(1, 0), S(3))),
    (BIT, ("case", 2, "x", HANGING, N("b"), (P(1, 0), P(2, 1))), ("at", "x", S(2), N("b"), HANGING)),
    (SIZE2 + (("a", S(3)),), ("case", 3, "x", Z(2), N("a"), (Q(2, 2), N("n"), Q(2, 0))), ("at", "x", S(3), N("a"), Z(2))),
    ((("a", S(4)),), ("case", 4, "x", S(2), N("a"), (P(2, 1), P(2, 0), P(2, 0), P(2, 1))), ("at", "x", S(4), N("a"), S(2))),
]

CODED = [
    (EMPTY, 0, S(0), None), (EMPTY, 4, S(4), P(4, 2)), (EMPTY, 2, Z(1), Q(1, 1)), (EMPTY, 1, Z(0), Q(0, 0)),
    (SIZE2, 2, of(2, N("n")), None), (POINT2, 2, of(2, N("n")), N("p")), (POINT, 3, of(3, N("n")), N("p")),
    (SIZE2, 4, ("pairs", "k", of(2, N("n")), of(2, N("n"))), None),
    (POINT2, 4, ("pairs", "k", of(2, N("n")), S(2)), ("pair", "k", of(2, N("n")), S(2), N("p"), P(2, 1))),
    (SIZE2, 4, MARKED, ("fun", "q", of(2, N("n")), S(2), P(2, 1))),
    (SIZE2, 2, ("ways", Z(2), N("n"), N("n")), ("stay", Z(2), N("n"))), (WAY, 2, WAYS, N("w")),
    (POINT2, 3, ("either", of(2, N("n")), S(1)), ("left", of(2, N("n")), S(1), N("p"))),
    (SIZE2, 3, ("either", of(2, N("n")), S(1)), ("right", of(2, N("n")), S(1), P(1, 0))),
    (SIZE2, 3, ("classes", Z(2)), ("class", Z(2), N("n"))), (CLASSED, 4, CLASSED[1][1], N("c")),
    (POINT2, 2, ("at", "k", Z(2), N("n"), of(2, N("k"))), N("p")), (NONE, 0, Z(4), N("v")),
]

CODES = []
for context, m, kind, thing in CODED:
    CODES.append((context, ("code", m, kind), Z(m)))
    if thing is not None:
        index = ("index", m, kind, thing)
        CODES.append((context, index, of(m, ("code", m, kind))))
        CODES.append((context, ("item", m, kind, index), kind))
CODES += [
    (EMPTY, ("item", 4, S(3), P(3, 2)), S(3)),
    (POINT[:1] + (("p", of(3, ("code", 3, of(3, N("n"))))),), ("item", 3, of(3, N("n")), N("p")), of(3, N("n"))),
]

PAIRS = [
    (POINT2, PAIR, POINTED), (EMPTY, ("pair", "k", Z(2), of(2, N("k")), Q(2, 2), P(2, 1)), POINTED),
    (BIT, ("pair", "x", S(2), HANGING, N("b"), ("case", 2, "x", HANGING, N("b"), (P(1, 0), P(2, 1)))),
     ("pairs", "x", S(2), HANGING)),
    (PAIRED, ("first",) + POINTED[1:] + (N("r"),), Z(2)),
    (PAIRED, ("second",) + POINTED[1:] + (N("r"),), ("at", "k", Z(2), ("first",) + POINTED[1:] + (N("r"),), of(2, N("k")))),
    (POINT2, ("first",) + POINTED[1:] + (PAIR,), Z(2)),
    (POINT2, ("second",) + POINTED[1:] + (PAIR,), ("at", "k", Z(2), ("first",) + POINTED[1:] + (PAIR,), of(2, N("k")))),
    (TWO, ("pair", "k", Z(2), Z(2), N("m"), N("n")), ("pairs", "k", Z(2), Z(2))),
    ((("r", ("pairs", "k", S(2), Z(2))),), ("second", "k", S(2), Z(2), N("r")),
     ("at", "k", S(2), ("first", "k", S(2), Z(2), N("r")), Z(2))),
]

FIRST_PART, SECOND_PART = [(word,) + POINTED[1:] + (N("r"),) for word in ("first", "second")]

MAPS = [
    (SIZE2, ("fun", "q", of(2, N("n")), of(2, N("n")), N("q")), ("maps", "q", of(2, N("n")), of(2, N("n")))),
    (SIZE2, ("fun", "q", of(2, N("n")), Z(2), N("n")), ("maps", "q", of(2, N("n")), Z(2))),
    (EMPTY, ("fun", "x", Z(2), Z(2), N("x")), ("maps", "x", Z(2), Z(2))),
    (EMPTY, ("fun", "x", S(2), HANGING, ("case", 2, "z", of(2, ("case", 2, "y", Z(2), N("z"), (Q(2, 1), Q(2, 2)))), N("x"),
                                         (P(1, 0), P(2, 1)))), ("maps", "x", S(2), HANGING)),
    (SIZE2, ("fun", "x", Z(2), ("maps", "q", of(2, N("x")), Z(2)), ("fun", "q", of(2, N("x")), Z(2), N("n"))),
     ("maps", "x", Z(2), ("maps", "q", of(2, N("x")), Z(2)))),
    (FAMILY + (("p", of(2, N("n"))),), ("app", "q", of(2, N("n")), Z(2), N("f"), N("p")), ("at", "q", of(2, N("n")), N("p"), Z(2))),
    (SIZE2, ("app", "x", Z(2), ("ways", Z(2), N("x"), N("x")), ("fun", "x", Z(2), ("ways", Z(2), N("x"), N("x")),
                                                               ("stay", Z(2), N("x"))), N("n")),
     ("at", "x", Z(2), N("n"), ("ways", Z(2), N("x"), N("x")))),
    (TWO, ("app", "x", Z(2), Z(2), ("fun", "x", Z(2), Z(2), N("m")), N("n")), ("at", "x", Z(2), N("n"), Z(2))),
    (SIZE2, ("open", "n", Z(2), Z(2), ("fun", "n", Z(2), Z(2), N("n"))), Z(2)),
    (PAIRED, ("open", "r", POINTED, of(2, FIRST_PART), ("fun", "r", POINTED, of(2, FIRST_PART), SECOND_PART)), of(2, FIRST_PART)),
    (PAIRED, ("open", "r", POINTED, Z(2), ("fun", "r", POINTED, Z(2), FIRST_PART)), Z(2)),
    (POINT2, ("open", "p", of(2, N("n")), of(2, N("n")), ("fun", "p", of(2, N("n")), of(2, N("n")), N("p"))), of(2, N("n"))),
    (POINT2, ("open", "p", of(2, N("n")), Z(2), ("fun", "p", of(2, N("n")), Z(2), N("n"))), Z(2)),
    (TWO, ("open", "m", Z(2), ("maps", "k", of(2, N("m")), Z(2)),
           ("fun", "m", Z(2), ("maps", "k", of(2, N("m")), Z(2)), ("fun", "k", of(2, N("m")), Z(2), N("n")))),
     ("maps", "k", of(2, N("m")), Z(2))),
    (TWO, ("open", "n", Z(2), ("maps", "m", of(2, N("n")), Z(2)),
           ("fun", "n", Z(2), ("maps", "m", of(2, N("n")), Z(2)), ("fun", "m", of(2, N("n")), Z(2), N("n")))),
     ("maps", "m", of(2, N("n")), Z(2))),
]

CARRIED = ("carry", "k", Z(2), of(2, N("k")), N("n"), N("m"), N("w"), N("p"))
BOTH = ("pairs", "k", Z(2), Z(2))
FIRST, SECOND = ("pair",) + BOTH[1:] + (N("n"), N("n")), ("pair",) + BOTH[1:] + (N("m"), N("n"))
CONST = {x: ("fun", "q", S(2), Z(2), N(x)) for x in ("n", "m")}
MARKS = ("code", 4, ("maps", "q", of(2, N("x")), S(2)))

WAY_TERMS = [
    (SIZE2, ("stay", Z(2), N("n")), ("ways", Z(2), N("n"), N("n"))),
    (EMPTY, ("stay", S(3), P(3, 1)), ("ways", S(3), P(3, 1), P(3, 1))),
    (WAY, ("back", Z(2), N("n"), N("m"), N("w")), ("ways", Z(2), N("m"), N("n"))),
    (EMPTY, ("back", Z(3), Q(3, 3), Q(3, 3), TURN), ("ways", Z(3), Q(3, 3), Q(3, 3))),
    (WAY, ("join", Z(2), N("n"), N("m"), N("n"), N("w"), ("back", Z(2), N("n"), N("m"), N("w"))),
     ("ways", Z(2), N("n"), N("n"))),
    (EMPTY, ("join", Z(3), Q(3, 3), Q(3, 3), Q(3, 3), TURN, TURN), ("ways", Z(3), Q(3, 3), Q(3, 3))),
    (WAY, ("led", "x", Z(2), Z(2), N("x"), N("n"), N("m"), N("w")), given_ways("x", Z(2), Z(2), N("x"), N("n"), N("m"))),
    (WAY, ("led", "x", Z(2), Z(4), MARKS, N("n"), N("m"), N("w")), given_ways("x", Z(2), Z(4), MARKS, N("n"), N("m"))),
    (FOUND, CARRIED, ("at", "k", Z(2), N("m"), of(2, N("k")))),
    (EMPTY, ("carry", "k", Z(2), of(2, N("k")), Q(2, 2), Q(2, 2), SWAP, P(2, 0)), ("at", "k", Z(2), Q(2, 2), of(2, N("k")))),
    (WAY, ("pairway", "k", Z(2), Z(2), FIRST, SECOND, N("w"), ("stay", Z(2), N("n"))), ("ways", BOTH, FIRST, SECOND)),
    (WAY, ("mapway", "q", S(2), Z(2), CONST["n"], CONST["m"], N("w")), ("ways", ("maps", "q", S(2), Z(2)), CONST["n"], CONST["m"])),
    (EMPTY, SWAP, ("ways", Z(2), Q(2, 2), Q(2, 2))), (EMPTY, TURN, ("ways", Z(3), Q(3, 3), Q(3, 3))),
    (SIZE2, ("exchange", 2, "q", N("n"), N("n"), ("fun", "q", of(2, N("n")), of(2, N("n")), N("q"))),
     ("ways", Z(2), N("n"), N("n"))),
]

ALONE_KIND = ("pairs", "x", S(2), ("ways", S(2), N("x"), P(2, 1)))

OTHERS = [
    (SIZE2, ("any", of(2, N("n"))), S(2)), (TWO, ("any", WAYS), S(2)), (EMPTY, ("any", S(0)), S(2)),
    (EMPTY, ("only", S(1)), S(1)), (SIZE2, ("only", ("maps", "q", of(2, N("n")), S(1))), ("maps", "q", of(2, N("n")), S(1))),
    (ALONE, ("only", ("ways", S(2), P(2, 1), N("b"))), ("ways", S(2), P(2, 1), N("b"))),
    (EMPTY, ("only", ALONE_KIND), ALONE_KIND), (NONE, ("only", Z(3)), Z(3)), (EMPTY, ("only", Z(0)), Z(0)),
    (SIZE2, ("class", Z(2), N("n")), ("classes", Z(2))), (POINT, ("class", of(3, N("n")), N("p")), ("classes", of(3, N("n")))),
    (EMPTY, ("class", POINTED, ("pair",) + POINTED[1:] + (Q(2, 2), P(2, 1))), ("classes", POINTED)),
    (SIZE2, ("eachclass", "x", Z(2), S(2), ("any", of(2, N("x"))), ("class", Z(2), N("n"))), S(2)),
    (CLASSED, ("eachclass", "x", CLASSED[1][1][1], of(2, N("n")), ("first",) + CLASSED[1][1][1][1:] + (N("x"),), N("c")),
     of(2, N("n"))),
    (POINT2, ("left", of(2, N("n")), Z(1), N("p")), ("either", of(2, N("n")), Z(1))),
    (SIZE2, ("right", of(2, N("n")), Z(2), N("n")), ("either", of(2, N("n")), Z(2))),
    (EITHER, ("split", "z", of(2, N("n")), Z(1), Z(2), "x", N("n"), "y", Q(2, 1), N("e")),
     ("at", "z", EITHER[1][1], N("e"), Z(2))),
    (EITHER, ("split", "z", of(2, N("n")), Z(1), EITHER[1][1], "x", ("left",) + EITHER[1][1][1:] + (N("x"),), "x",
              ("right",) + EITHER[1][1][1:] + (N("x"),), N("e")), ("at", "z", EITHER[1][1], N("e"), EITHER[1][1])),
    (SIZE2, ("given", "x", Z(2), N("n"), N("x")), ("at", "x", Z(2), N("n"), Z(2))),
    (POINT2, ("given", "x", of(2, N("n")), N("p"), ("stay", of(2, N("n")), N("x"))),
     ("at", "x", of(2, N("n")), N("p"), ("ways", of(2, N("n")), N("x"), N("x")))),
    (SIZE2, ("given", "x", S(2), P(2, 0), N("n")), ("at", "x", S(2), P(2, 0), Z(2))),
    (EMPTY, ("given", "x", S(2), P(2, 0), ("given", "y", Z(1), Q(1, 1), P(3, 1))),
     ("at", "x", S(2), P(2, 0), ("at", "y", Z(1), Q(1, 1), S(3)))),
]

SAMPLES = NAMES + PLAIN + CODES + PAIRS + MAPS + WAY_TERMS + OTHERS
