"""Texts (points 2 and 19): write and read, and all that is no text."""

import unittest

from isthmus.errors import BadText, IsthmusError
from isthmus.texts import read, write
from short import CONTEXTS, N, P, Q, S, TYPES, Z, of

LETTERS = "abcdefghijklmnopqrstuvwxyz"


def figures(many, first=1):
    """So many figures, by a rule, none of them 0 ahead; and the integer, made without converting a long text."""
    text, number = "", 0
    for k in range(many):
        figure = first if k == 0 else (7 * k + k // 10) % 10
        text += str(figure)
        number = number * 10 + figure
    return text, number


def nested(deep, inner=()):
    value, text = inner, write(inner)
    for _ in range(deep):
        value, text = (value,), "(" + text + ")"
    return value, text


CASES = [
    ("a", "a"), ("z", "z"), ("set", "set"), ("abcdefgh", "abcdefgh"), (LETTERS, LETTERS), ("aa" * 40, "aa" * 40),
    (0, "0"), (1, "1"), (9, "9"), (10, "10"), (-1, "-1"), (-10, "-10"), (100, "100"), (-907, "-907"),
    (10 ** 49 + 7, "1" + "0" * 48 + "7"), (-(10 ** 50) + 1, "-" + "9" * 50),
    (10 ** 17, "1" + "0" * 17), (10 ** 18 - 1, "9" * 18), (10 ** 18, "1" + "0" * 18), (10 ** 36, "1" + "0" * 36),
    (10 ** 19 + 10 ** 18, "11" + "0" * 18), (-(10 ** 54) - 5, "-1" + "0" * 53 + "5"), (10 ** 120, "1" + "0" * 120),
    ((), "()"), ((0,), "(0)"), (("a",), "(a)"), (((),), "(())"), (((), ()), "(() ())"), ((1, 2), "(1 2)"),
    ((-1, "a", 0), "(-1 a 0)"), ((1, (2, (3, (4, 5)))), "(1 (2 (3 (4 5))))"), (((((1,),),),), "((((1))))"),
    ((((), "a"), (("b",), ())), "((() a) ((b) ()))"), (tuple(range(30)), "(" + " ".join(map(str, range(30))) + ")"),
    (("case", 2, "x", S(3), P(2, 0), (P(3, 1), N("y"))),
     "(case 2 x (set 3) (point 2 0) ((point 3 1) (name y)))"),
    (("case", 0, "x", S(3), N("e"), ()), "(case 0 x (set 3) (name e) ())"),
    (("pairs", "k", Z(3), of(3, N("k"))), "(pairs k (sizes 3) (of 3 (name k)))"),
    ((("n", Z(3)), ("p", of(3, N("n")))), "((n (sizes 3)) (p (of 3 (name n))))"),
    (((1, 0), ((), ())), "((1 0) (() ()))"),
]

WRONG = [
    "", " ", "  ", "\n", "-", "--1", "-0", "-00", "00", "01", "-01", "007", "+1", "1+", "1-", "- 1", "-(1)", "1.0", "1_0", "0x1",
    "A", "aB", "Set", "a1", "1a", "-a", "a-b", "a_b", "a,b", "a.", "'a'", "\u00e9", "\u0661", "\u00b2", "\uff11", "a\u00df",
    "a ", " a", "a b", "1 2", "a\n", "\ta", "() ()", "()()", "(", ")", ")(", "(()", "())", "(a", "a)", "( )", "( a)", "(a )",
    "(a  b)", "(a\nb)", "(a\tb)", "(a\x1cb)", "(a\u00a0b)", "(a,b)", "(a(b))", "((a)b)", "(a)b", "a(b)", "((a)(b))", "[a]", "{a}",
    "(a b) ", " (a b)", "(-0)", "(01)", "(a B)", "(1 2))", "((1 2)", "(1 - 2)", "(a;)", "\"a\"", "(set 3)x", "\x00", "a\x00",
]


class TextsTest(unittest.TestCase):

    def assert_bad(self, text):
        with self.assertRaises(BadText, msg=text[:60]):
            read(text)

    def test_write_and_read(self):
        for value, text in CASES:
            self.assertEqual(write(value), text)
            self.assertEqual(read(text), value)

    def test_kinds_of_what_is_read(self):
        self.assertEqual([type(read(text)) for text in ("a", "0", "-3", "()", "(a)")], [str, int, int, tuple, tuple])
        self.assertIsInstance(read("(1 (2))")[1], tuple)

    def test_long_integers(self):
        for many in (17, 18, 19, 35, 36, 37, 50, 54, 55, 900, 4299, 4300, 4301, 4400, 9001):
            text, number = figures(many)
            self.assertEqual(write(number), text)
            self.assertEqual(write(-number), "-" + text)
            self.assertTrue(read(text) == number)
            self.assertTrue(read("-" + text) == -number)
            self.assertTrue(read("(a " + text + " (-" + text + "))") == ("a", number, (-number,)))
            self.assert_bad("0" + text)
            self.assert_bad("-0" + text)
            self.assert_bad(text + "x")
        self.assert_bad("0" * 4400)
        self.assert_bad("0" * 60)

    def test_deep(self):
        for deep in (1, 4, 60, 65, 300):
            value, text = nested(deep, ("a", 3))
            self.assertEqual(write(value), text)
            self.assertEqual(write(read(text)), text)
            self.assert_bad(text[:-1])
            self.assert_bad(text + ")")
            self.assert_bad(text[1:])
            self.assert_bad("(" + text)
        self.assertEqual(read(nested(60)[1]), nested(60)[0])
        self.assert_bad("(" * 50000)
        self.assert_bad(")" * 50000)
        value, text = nested(50000)
        self.assertEqual(write(value), text)
        self.assertEqual(write(read(text)), text)

    def test_types_terms_and_contexts(self):
        for value in CONTEXTS + TYPES + [Q(3, 2), ("open", "n", Z(3), S(2), ("fun", "n", Z(3), S(2), P(2, 0)))]:
            self.assertEqual(read(write(value)), value)

    def test_what_is_no_text(self):
        for text in WRONG:
            self.assert_bad(text)
        self.assertTrue(issubclass(BadText, IsthmusError) and issubclass(BadText, ValueError))

    def test_one_sign_changed(self):
        """Each text with a sign put in, taken out, changed, doubled or exchanged, against a check sign by sign."""
        for _, text in CASES:
            if len(text) > 60:
                continue
            changed = set()
            for at in range(len(text) + 1):
                changed |= {text[:at] + sign + text[at:] for sign in "() -0a1A"}
                changed |= {text[:at], text[at:]}
                if at < len(text):
                    changed |= {text[:at] + sign + text[at + 1:] for sign in ("(", ")", " ", "-", "0", "b", "", text[at] * 2)}
                if at + 1 < len(text):
                    changed.add(text[:at] + text[at + 1] + text[at] + text[at + 2:])
            for other in sorted(changed):
                if is_text(other):
                    self.assertEqual(write(read(other)), other)
                else:
                    self.assert_bad(other)

    def test_what_is_passed_stays(self):
        value = ("a", (1, ()), -5)
        self.assertEqual(write(value), "(a (1 ()) -5)")
        self.assertEqual(value, ("a", (1, ()), -5))


def is_text(text):
    """Point 19, read from left to right."""
    end = value_end(text, 0)
    return end == len(text)


def value_end(text, at):
    """The position behind the value that begins here, or None."""
    if text[at:at + 1] == "(":
        at += 1
        if text[at:at + 1] == ")":
            return at + 1
        while True:
            at = value_end(text, at)
            if at is None or text[at:at + 1] not in (" ", ")") or at == len(text):
                return None
            at += 1
            if text[at - 1] == ")":
                return at
    end = at
    while end < len(text) and text[end] not in "() ":
        end += 1
    piece = text[at:end]
    word = piece != "" and all(sign in LETTERS for sign in piece)
    plain = piece[1:] if piece[:1] == "-" else piece
    integer = plain != "" and all(sign in "0123456789" for sign in plain) and (plain[0] != "0" or piece == "0")
    return end if word or integer else None


if __name__ == "__main__":
    unittest.main()
