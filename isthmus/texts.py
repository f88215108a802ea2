"""Texts of words, integers and nested tuples of these (point 19).

Integers go through rows of figures of a bounded length, since Python refuses to convert very long ones at once.
"""

from isthmus.errors import BadText

# Integers below the limit have at most so many figures as a row.
ROW = 18
ROW_LIMIT = 1000000000000000000
FIGURES = "0123456789"


def write(value):
    """Return the text of a word, an integer or a nested tuple of these."""
    pieces = []
    # What is still to be written, the last one first; blanks and brackets stand among the values, as words do.
    waiting = [value]
    while waiting:
        part = waiting.pop()
        if isinstance(part, str):
            pieces.append(part)
        elif isinstance(part, int):
            pieces.append(integer_text(part))
        else:
            pieces.append("(")
            waiting.append(")")
            waiting.extend(spaced_parts(part))
    return "".join(pieces)


def spaced_parts(parts):
    """Return the parts of a tuple and the blanks between them, the last one first."""
    found = []
    for at in reversed(range(len(parts))):
        found.append(parts[at])
        if at > 0:
            found.append(" ")
    return found


def integer_text(number):
    """Return the decimal figures of an integer."""
    rows = []
    rest = abs(number)
    while rest >= ROW_LIMIT:
        rest, low = divmod(rest, ROW_LIMIT)
        rows.append(str(low).zfill(ROW))
    rows.append(str(rest))
    if number < 0:
        rows.append("-")
    rows.reverse()
    return "".join(rows)


def read(text):
    """Return the value with this text; raise BadText if there is none."""
    value = loose_value(text.replace("(", " ( ").replace(")", " ) ").split())
    # The pieces are read whatever stands between them and with all zeros ahead; the way back shows if that was right.
    if write(value) != text:
        raise BadText("not written as texts are")
    return value


def loose_value(pieces):
    """Return the value that pieces (words, integers, signs for the ends of tuples) tell, one behind the other."""
    rows = [[]]
    for piece in pieces:
        if piece == "(":
            rows.append([])
        elif piece == ")":
            if len(rows) == 1:
                raise BadText("a tuple ends that has not begun")
            whole = tuple(rows.pop())
            rows[-1].append(whole)
        else:
            rows[-1].append(word_or_integer(piece))
    if len(rows) > 1 or len(rows[0]) != 1:
        raise BadText("not one whole value")
    return rows[0][0]


def word_or_integer(piece):
    """Return the word or integer that a piece tells."""
    if all([("a" <= letter <= "z") for letter in piece]):
        return piece
    negative = piece[0] == "-"
    figures = piece[1:] if negative else piece
    if figures == "" or not all([figure in FIGURES for figure in figures]):
        raise BadText("neither a word nor an integer")
    many = -(-len(figures) // ROW)
    figures = figures.zfill(many * ROW)
    number = 0
    for at in range(many):
        number = number * ROW_LIMIT + int(figures[at * ROW:at * ROW + ROW])
    return -number if negative else number
