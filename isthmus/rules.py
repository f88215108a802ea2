"""The types of terms, by the words of point 13, and what their parts must be.

Each rule checks the parts of a term in its context and returns the type of the term. A part is checked before it is
compared with anything.
"""


def name_rule(checker, parts, scope):
    """Any name of the context."""
    return scope.up_to(parts[0]).kind


def point_rule(checker, parts, scope):
    """A point of a set."""
    return checker.node("set", parts[:1])


def case_rule(checker, parts, scope):
    """A choice by a point of a set."""
    many, name, kind, term, branches = parts
    points = checker.node("set", (many,))
    checker.check_kind(kind, scope.within(name, points))
    checker.check_term(term, scope, points)
    for at, branch in enumerate(branches):
        point = checker.node("point", (many, at))
        checker.check_term(branch, scope, checker.node("at", (name, points, point, kind)))
    return checker.node("at", (name, points, term, kind))


def size_rule(checker, parts, scope):
    """A size."""
    return checker.node("sizes", parts[:1])


def code_rule(checker, parts, scope):
    """The size of a flat type."""
    checker.check_small(parts[1], scope, parts[0])
    return checker.node("sizes", parts[:1])


def points_of_code(checker, parts):
    """Return the type of the points of the code of a type."""
    return checker.node("of", (parts[0], checker.node("code", parts[:2])))


def index_rule(checker, parts, scope):
    """The position of an object of a flat type."""
    checker.check_small(parts[1], scope, parts[0])
    checker.check_term(parts[2], scope, parts[1])
    return points_of_code(checker, parts)


def item_rule(checker, parts, scope):
    """The object of a flat type with a position."""
    checker.check_small(parts[1], scope, parts[0])
    checker.check_term(parts[2], scope, points_of_code(checker, parts))
    return parts[1]


def check_family(checker, parts, scope):
    """Check the name, the type and the type over it with which a term begins."""
    checker.check_kind(parts[1], scope)
    checker.check_kind(parts[2], scope.within(parts[0], parts[1]))


def pair_rule(checker, parts, scope):
    """A pair."""
    name, left, right, first, second = parts
    check_family(checker, parts, scope)
    checker.check_term(first, scope, left)
    checker.check_term(second, scope, checker.node("at", (name, left, first, right)))
    return checker.node("pairs", parts[:3])


def first_rule(checker, parts, scope):
    """The first part of a pair."""
    check_family(checker, parts, scope)
    checker.check_term(parts[3], scope, checker.node("pairs", parts[:3]))
    return parts[1]


def second_rule(checker, parts, scope):
    """The second part of a pair."""
    first_rule(checker, parts, scope)
    return checker.node("at", (parts[0], parts[1], checker.node("first", parts), parts[2]))


def fun_rule(checker, parts, scope):
    """A map that is told by a term."""
    name, left, right, body = parts
    check_family(checker, parts, scope)
    checker.check_term(body, scope.within(name, left), right)
    return checker.node("maps", parts[:3])


def app_rule(checker, parts, scope):
    """A map at a term."""
    name, left, right, function, part = parts
    check_family(checker, parts, scope)
    checker.check_term(function, scope, checker.node("maps", parts[:3]))
    checker.check_term(part, scope, left)
    return checker.node("at", (name, left, part, right))


def opened_rule(checker, parts, scope):
    """A map at a name of the context."""
    name, left, right, function = parts
    place = scope.up_to(name)
    check_family(checker, parts, place.before)
    checker.check_same(place.before, place.kind, left)
    checker.check_term(function, place.before, checker.node("maps", parts[:3]))
    return right


def stay_rule(checker, parts, scope):
    """The identity of a term."""
    kind, term = parts
    checker.check_kind(kind, scope)
    checker.check_term(term, scope, kind)
    return checker.node("ways", (kind, term, term))


def check_ends(checker, kind, scope, ends):
    """Check a type and terms of it."""
    checker.check_kind(kind, scope)
    for term in ends:
        checker.check_term(term, scope, kind)


def back_rule(checker, parts, scope):
    """The inverse of an arrow."""
    kind, first, second, way = parts
    check_ends(checker, kind, scope, (first, second))
    checker.check_term(way, scope, checker.node("ways", (kind, first, second)))
    return checker.node("ways", (kind, second, first))


def join_rule(checker, parts, scope):
    """The composite of two arrows."""
    kind, first, second, third, one, two = parts
    check_ends(checker, kind, scope, (first, second, third))
    checker.check_term(one, scope, checker.node("ways", (kind, first, second)))
    checker.check_term(two, scope, checker.node("ways", (kind, second, third)))
    return checker.node("ways", (kind, first, third))


def led_rule(checker, parts, scope):
    """The arrow of a term along an arrow."""
    name, left, kind, body, first, second, way = parts
    check_ends(checker, left, scope, (first, second))
    checker.check_kind(kind, scope)
    checker.check_term(body, scope.within(name, left), kind)
    checker.check_term(way, scope, checker.node("ways", (left, first, second)))
    ends = [checker.node("given", (name, left, end, body)) for end in (first, second)]
    return checker.node("ways", (kind, ends[0], ends[1]))


def carry_rule(checker, parts, scope):
    """A term, carried along an arrow."""
    name, left, right, first, second, way, body = parts
    check_family(checker, parts, scope)
    check_ends(checker, left, scope, (first, second))
    checker.check_term(way, scope, checker.node("ways", (left, first, second)))
    checker.check_term(body, scope, checker.node("at", (name, left, first, right)))
    return checker.node("at", (name, left, second, right))


def pairway_rule(checker, parts, scope):
    """An arrow between pairs."""
    name, left, right, first, second, one, two = parts
    check_family(checker, parts, scope)
    pairs = checker.node("pairs", parts[:3])
    check_ends(checker, pairs, scope, (first, second))
    starts = [checker.node("first", parts[:3] + (pair,)) for pair in (first, second)]
    checker.check_term(one, scope, checker.node("ways", (left, starts[0], starts[1])))
    ends = [checker.node("second", parts[:3] + (pair,)) for pair in (first, second)]
    carried = checker.node("carry", parts[:3] + (starts[0], starts[1], one, ends[0]))
    fibre = checker.node("at", (name, left, starts[1], right))
    checker.check_term(two, scope, checker.node("ways", (fibre, carried, ends[1])))
    return checker.node("ways", (pairs, first, second))


def mapway_rule(checker, parts, scope):
    """An arrow between maps."""
    name, left, right, first, second, body = parts
    check_family(checker, parts, scope)
    maps = checker.node("maps", parts[:3])
    check_ends(checker, maps, scope, (first, second))
    ends = [checker.node("open", parts[:3] + (function,)) for function in (first, second)]
    checker.check_term(body, scope.within(name, left), checker.node("ways", (right, ends[0], ends[1])))
    return checker.node("ways", (maps, first, second))


def exchange_rule(checker, parts, scope):
    """An arrow between sizes."""
    many, name, first, second, function = parts
    sizes = checker.node("sizes", (many,))
    check_ends(checker, sizes, scope, (first, second))
    left = checker.node("of", (many, first))
    right = checker.node("of", (many, second))
    checker.check_term(function, scope, checker.node("maps", (name, left, right)))
    checker.check_exchange(function, scope, right)
    return checker.node("ways", (sizes, first, second))


def any_rule(checker, parts, scope):
    """Whether a type has an object."""
    checker.check_kind(parts[0], scope)
    return checker.node("set", (2,))


def only_rule(checker, parts, scope):
    """The one object of a type."""
    checker.check_kind(parts[0], scope)
    checker.check_only(parts[0], scope)
    return parts[0]


def class_rule(checker, parts, scope):
    """The class of a term."""
    check_ends(checker, parts[0], scope, parts[1:])
    return checker.node("classes", parts[:1])


def eachclass_rule(checker, parts, scope):
    """What a term makes of a class."""
    name, left, kind, body, part = parts
    checker.check_kind(left, scope)
    checker.check_kind(kind, scope)
    checker.check_flat(kind, scope)
    checker.check_term(body, scope.within(name, left), kind)
    checker.check_term(part, scope, checker.node("classes", (left,)))
    return kind


def side_rule(checker, parts, scope, side):
    """A term, marked as one of a side."""
    checker.check_kind(parts[0], scope)
    checker.check_kind(parts[1], scope)
    checker.check_term(parts[2], scope, parts[side])
    return checker.node("either", parts[:2])


def left_rule(checker, parts, scope):
    """A term of the first side."""
    return side_rule(checker, parts, scope, 0)


def right_rule(checker, parts, scope):
    """A term of the second side."""
    return side_rule(checker, parts, scope, 1)


def split_rule(checker, parts, scope):
    """A choice by the side."""
    outer, left, right, kind, first, one, second, two, part = parts
    checker.check_kind(left, scope)
    checker.check_kind(right, scope)
    either = checker.node("either", (left, right))
    checker.check_kind(kind, scope.within(outer, either))
    sides = (("left", left, first, one), ("right", right, second, two))
    for word, base, name, body in sides:
        marked = checker.node(word, (left, right, checker.node("name", (name,))))
        checker.check_term(body, scope.within(name, base), checker.node("at", (outer, either, marked, kind)))
    checker.check_term(part, scope, either)
    return checker.node("at", (outer, either, part, kind))


def given_rule(checker, parts, scope):
    """A term with another term for a name."""
    name, left, part, body = parts
    check_ends(checker, left, scope, (part,))
    kind = checker.infer(body, scope.within(name, left))
    return checker.node("at", (name, left, part, kind))


RULES = {
    "name": name_rule,
    "point": point_rule,
    "case": case_rule,
    "size": size_rule,
    "code": code_rule,
    "index": index_rule,
    "item": item_rule,
    "pair": pair_rule,
    "first": first_rule,
    "second": second_rule,
    "fun": fun_rule,
    "app": app_rule,
    "open": opened_rule,
    "stay": stay_rule,
    "back": back_rule,
    "join": join_rule,
    "led": led_rule,
    "carry": carry_rule,
    "pairway": pairway_rule,
    "mapway": mapway_rule,
    "exchange": exchange_rule,
    "any": any_rule,
    "only": only_rule,
    "class": class_rule,
    "eachclass": eachclass_rule,
    "left": left_rule,
    "right": right_rule,
    "split": split_rule,
    "given": given_rule,
}


def find_type(checker, term, scope):
    """Check a term and return its type."""
    rule = RULES[term.word]
    return rule(checker, term.parts, scope)
