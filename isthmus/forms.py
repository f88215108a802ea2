"""The words of types and terms, the parts that each of them takes, and the checks of form and of names.

The codes of the parts, where G is the context in which the whole stands:
"n" an integer from 0 to 4; "below" and "upto" an integer below, or up to, the first part;
"x", "y", "z" a name that is not in G; "use" a name of G;
"K" a type and "T" a term in G, and with a tail in another context: "x", "y", "z" in G with that name,
"<" in the part of G ahead of the used name, "=" in this part with the used name itself;
"T*" a tuple of as many terms as the first part tells.
"""

from isthmus.errors import BadForm, BadName

KINDS = {
    "set": ("n",),
    "sizes": ("n",),
    "of": ("n", "T"),
    "pairs": ("x", "K", "Kx"),
    "maps": ("x", "K", "Kx"),
    "ways": ("K", "T", "T"),
    "either": ("K", "K"),
    "classes": ("K",),
    "at": ("x", "K", "T", "Kx"),
}

TERMS = {
    "name": ("use",),
    "point": ("n", "below"),
    "case": ("n", "x", "Kx", "T", "T*"),
    "size": ("n", "upto"),
    "code": ("n", "K"),
    "index": ("n", "K", "T"),
    "item": ("n", "K", "T"),
    "pair": ("x", "K", "Kx", "T", "T"),
    "first": ("x", "K", "Kx", "T"),
    "second": ("x", "K", "Kx", "T"),
    "fun": ("x", "K", "Kx", "Tx"),
    "app": ("x", "K", "Kx", "T", "T"),
    "open": ("use", "K<", "K=", "T<"),
    "stay": ("K", "T"),
    "back": ("K", "T", "T", "T"),
    "join": ("K", "T", "T", "T", "T", "T"),
    "led": ("x", "K", "K", "Tx", "T", "T", "T"),
    "carry": ("x", "K", "Kx", "T", "T", "T", "T"),
    "pairway": ("x", "K", "Kx", "T", "T", "T", "T"),
    "mapway": ("x", "K", "Kx", "T", "T", "Tx"),
    "exchange": ("n", "x", "T", "T", "T"),
    "any": ("K",),
    "only": ("K",),
    "class": ("K", "T"),
    "eachclass": ("x", "K", "K", "Tx", "T"),
    "left": ("K", "K", "T"),
    "right": ("K", "K", "T"),
    "split": ("z", "K", "K", "Kz", "x", "Tx", "y", "Ty", "T"),
    "given": ("x", "K", "T", "Tx"),
}

BINDERS = ("x", "y", "z")
LARGEST_NUMBER = 4
LONGEST_NAME = 8


def part_codes(word):
    """Return the codes of the parts behind a word."""
    if word in KINDS:
        return KINDS[word]
    return TERMS[word]


def is_written(code):
    """Tell whether a part with this code is a type or a term (not several)."""
    return code[0] in ("K", "T") and code != "T*"


def is_name(data):
    """Tell whether the data are a name."""
    if not isinstance(data, str) or not 1 <= len(data) <= LONGEST_NAME:
        return False
    return all([("a" <= letter <= "z") for letter in data])


def is_number(data, low, high):
    """Tell whether the data are an integer from low to high."""
    return isinstance(data, int) and low <= data <= high


def is_word(data, sort):
    """Tell whether the data are a word for types (sort K) or for terms (sort T)."""
    if not isinstance(data, str):
        return False
    if sort == "K":
        return data in KINDS
    return data in TERMS


def check_form(data, sort):
    """Raise BadForm unless the data are built as a type (sort K) or as a term (sort T)."""
    if not isinstance(data, tuple) or len(data) == 0 or not is_word(data[0], sort):
        raise BadForm("not one of the words")
    codes = part_codes(data[0])
    if len(data) != len(codes) + 1:
        raise BadForm(f"{data[0]} takes {len(codes)} parts")
    for code, part in zip(codes, data[1:]):
        if is_written(code):
            check_form(part, code[0])
        elif code == "T*":
            check_branches(part, data[1])
        elif not is_plain_part(code, part, data[1]):
            raise BadForm(f"{data[0]} has a wrong name or integer")


def check_branches(data, many):
    """Raise BadForm unless the data are a tuple of that many terms."""
    if not isinstance(data, tuple) or len(data) != many:
        raise BadForm("as many branches as the integer tells")
    for branch in data:
        check_form(branch, "T")


def is_plain_part(code, part, first):
    """Tell whether a part is the integer or name that its code asks for."""
    if code == "n":
        return is_number(part, 0, LARGEST_NUMBER)
    if code == "below":
        return is_number(part, 0, first - 1)
    if code == "upto":
        return is_number(part, 0, first)
    return is_name(part)


def check_context_form(data):
    """Raise BadForm unless the data are built as a context."""
    if not isinstance(data, tuple):
        raise BadForm("a context is a tuple")
    for pair in data:
        if not isinstance(pair, tuple) or len(pair) != 2 or not is_name(pair[0]):
            raise BadForm("a context consists of pairs that begin with a name")
        check_form(pair[1], "K")


def check_names(data, names):
    """Raise BadName if a type or term uses or binds a name against point 6; names are those of its context."""
    codes = part_codes(data[0])
    special = {}
    for code, part in zip(codes, data[1:]):
        if code in BINDERS:
            if part in names:
                raise BadName(f"{part} is in the context already")
            special[code] = part
        elif code == "use":
            if part not in names:
                raise BadName(f"{part} is not in the context")
            special[code] = part
    for code, part in zip(codes, data[1:]):
        if is_written(code):
            check_names(part, names_for(code, names, special))
        elif code == "T*":
            for branch in part:
                check_names(branch, names)


def names_for(code, names, special):
    """Return the names of the context in which a part with this code stands."""
    tail = code[1:]
    if tail == "":
        return names
    if tail in BINDERS:
        return names + (special[tail],)
    ahead = names[:names.index(special["use"])]
    if tail == "<":
        return ahead
    return ahead + (special["use"],)


def check_context_names(data):
    """Raise BadName if a context has a name twice, or a type in it has a wrong name."""
    names = ()
    for name, kind in data:
        if name in names:
            raise BadName(f"{name} stands twice in the context")
        check_names(kind, names)
        names = names + (name,)
