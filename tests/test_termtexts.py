"""Tests of term_text and read_term: promises 2, 5, 22, 24 and 25."""

import inspect
import re
import unittest

from caughtnames import termtexts
from caughtnames.errors import InvalidBody, InvalidText
from caughtnames.terms import is_term, size
from caughtnames.termtexts import read_term, term_text
from chance import Chance
from samples import chain, values_of_every_kind, wide, wide_and_deep

A = ("name", "a")
B = ("name", "b")
X = ("name", "x")
BODY = ("let", "x", X, ("call", "t", (("name", "$n"), ("each", "y", A, X))))

# Bodies with their texts.
TEXTS = [
    (A, "a"), (("name", "abcdef"), "abcdef"), (("name", "lets"), "lets"), (("name", "$n"), "$n"),
    (("hole", "h"), "?h"), (("hole", "abcdef"), "?abcdef"), (("name", "$abcdef"), "$abcdef"),
    (("op", "f", ()), "f()"), (("op", "f", (A,)), "f(a)"), (("op", "f", (A, B)), "f(a, b)"),
    (("op", "abcdef", (A, B, X)), "abcdef(a, b, x)"),
    (("call", "t", ()), "!t()"), (("call", "t", (A,)), "!t(a)"), (("call", "t", (A, B)), "!t(a, b)"),
    (("call", "t", (A, B, A)), "!t(a, b, a)"), (("call", "t", (A, B, A, B)), "!t(a, b, a, b)"),
    (("call", "abcdef", (A, B, A, B, X)), "!abcdef(a, b, a, b, x)"),
    (("let", "x", A, B), "let x = a in b"), (("let", "$n", A, B), "let $n = a in b"),
    (("want", "x", A, B), "want x = a in b"),
    (("each", "x", A, B), "each x of a: b"), (("each", "$n", A, B), "each $n of a: b"),
    (("let", "x", ("let", "y", A, B), X), "let x = let y = a in b in x"),
    (("let", "x", A, ("let", "y", B, X)), "let x = a in let y = b in x"),
    (("want", "x", ("want", "y", A, B), X), "want x = want y = a in b in x"),
    (("each", "x", ("each", "y", A, B), X), "each x of each y of a: b: x"),
    (("each", "x", A, ("each", "y", B, X)), "each x of a: each y of b: x"),
    (("let", "x", ("each", "y", A, B), X), "let x = each y of a: b in x"),
    (("each", "x", ("let", "y", A, B), X), "each x of let y = a in b: x"),
    (("op", "f", (("let", "x", A, X), ("each", "x", A, X), ("want", "x", A, X))),
     "f(let x = a in x, each x of a: x, want x = a in x)"),
    (("call", "t", (("let", "x", A, X), B)), "!t(let x = a in x, b)"),
    (("call", "t", (A, ("hole", "h"), ("call", "u", ()), ("op", "f", ()))), "!t(a, ?h, !u(), f())"),
    (("let", "x", ("op", "f", (A, ("hole", "h"))), ("call", "t", (("name", "$n"),))), "let x = f(a, ?h) in !t($n)"),
]

WRONG_TEXTS = [
    "", " ", "\n", "(", ")", "()", ",", ":", "=", "?", "$", "!", "1", "A", "a1", "a_b", "a.b",
    " a", "a ", "\na", "a\n", "a b", "(a)", "a)", "(a", "?h()", "$n()", "?h(a)", "??h", "?$n", "$?h", "$$n", "!t",
    "!", "!()", "! t()", "!$t()", "!?t()", "$f(a)", "?f(a)", "f (a)", "f( a)", "f(a )", "f( )", "f(a,b)", "f(a,  b)",
    "f(a , b)", "f(a, )", "f(, a)", "f(,)", "f(a, , b)", "f(a b)", "f(a", "f(a))", "f((a))", "f(a)(b)", "f(a)b", "f(a),",
    "f(a),b", "f(a), b", "a, b", "f(a,\nb)",
    "let", "in", "each", "of", "want", "let()", "in()", "f(let)", "f(in)", "!of()", "!want(a)", "$let", "?each", "$in",
    "abcdefg", "$abcdefg", "?abcdefg", "abcdefg()", "!abcdefg()", "let abcdefg = a in b",
    "f(a, b, a, b)", "!t(a, b, a, b, a, b)",
    "let x", "let x =", "let x = a", "let x = a in", "let x = a in ", "let x = in b", "let x a in b", "let x = a b",
    "let = a in b", "let let = a in b", "let in = a in b", "let ?h = a in b", "let !t = a in b", "let x() = a in b",
    "let x = a in b in c", "let  x = a in b", "let x  = a in b", "let x =  a in b", "let x = a  in b", "let x = a in  b",
    "let x=a in b", "let x= a in b", "let x =a in b", "letx = a in b", "let x = ain b", "let x = a inb", "let x, = a in b",
    "let x = f()in b", "let x = a\nin b", "let\nx = a in b", "let x = a in b ", "(let x = a in b)", "let (x) = a in b",
    "let x = (a) in b", "let x = a: b", "let x of a: b", "let x of a in b",
    "want $n = a in b", "want ?n = a in b", "want x = a", "want x of a: b", "want x = a: b", "want want = a in b",
    "each x of a", "each x of a:", "each x of a: ", "each x of a b", "each x of a :b", "each x of a : b", "each x of a:b",
    "each x of a:  b", "each x  of a: b", "each x of  a: b", "each x a: b", "each x = a: b", "each x = a in b",
    "each x of a in b", "each of of a: b", "each of a: b", "each ?h of a: b", "eachx of a: b", "each xof a: b",
    "each x of a: b: c", "each x of a:\nb", "Let x = a in b", "let x := a in b", "let x == a in b",
    "let x = a in b, c", "f(let x = a in b", "let x = f(a in b)", "let x = f(a in b",
]


def is_text_of_body(text):
    """True if text is that of a small body: tells it by putting signs in the place of parts, from within."""
    name = r"(?!(?:let|in|each|of|want)(?![a-z]))[a-z]{1,6}(?![a-z])"
    rules = [
        (rf"(?<![a-z$?!])(?<!let )(?<!each )(?<!want )(?:\$|\?)?{name}(?!\()", "@"),
        (rf"(?<![a-z$?!]){name}\((?:@(?:, @){{0,2}})?\)", "@"),
        (rf"!{name}\((?:@(?:, @){{0,4}})?\)", "@"),
        (rf"(?<![a-z])let (?:\$)?{name} = @ in @", "@"),
        (rf"(?<![a-z])want {name} = @ in @", "@"),
        (rf"(?<![a-z])each (?:\$)?{name} of @: @", "@"),
    ]
    if "@" in text:
        return False
    before = None
    while before != text:
        before = text
        for pattern, sign in rules:
            text = re.sub(pattern, sign, text)
    return text == "@"


class Interface(unittest.TestCase):
    def test_signatures(self):
        for name, signature in [("term_text", "(body)"), ("read_term", "(text)")]:
            function = getattr(termtexts, name)
            self.assertEqual(str(inspect.signature(function)), signature)
            self.assertEqual(function.__module__, "caughtnames.termtexts")

    def test_arguments_by_name(self):
        self.assertEqual(term_text(body=A), "a")
        self.assertEqual(read_term(text="a"), A)


class Texts(unittest.TestCase):
    def test_examples_of_the_document(self):
        self.assertEqual(term_text(BODY), "let x = x in !t($n, each y of a: x)")
        self.assertEqual(
            read_term("each x of let y = a in y: f(x, ?h)"),
            ("each", "x", ("let", "y", A, ("name", "y")), ("op", "f", (X, ("hole", "h")))))
        with self.assertRaises(InvalidText) as caught:
            read_term("f(x,y)")
        self.assertEqual(caught.exception.value, "f(x,y)")

    def test_each_kind_of_part(self):
        for body, text in TEXTS:
            self.assertEqual(term_text(body), text)
            self.assertEqual(read_term(text), body)

    def test_parts_are_tuples(self):
        self.assertTrue(is_term(read_term("let x = f(a, b()) in each y of x: g(x, y, y)")))

    def test_texts_by_chance(self):
        for seed in range(200):
            chance = Chance(
                seed, ["a", "x", "lets", "abcdef"], ["?h", "?k", "$n"],
                [("t", ["?a", "$n", "?b"]), ("u", []), ("five", ["?a"] * 5)], True)
            body = chance.body(60)
            self.assertEqual(read_term(term_text(body)), body)
            self.assertTrue(is_text_of_body(term_text(body)))


class WrongTexts(unittest.TestCase):
    def check_refused(self, text):
        with self.assertRaises(InvalidText) as caught:
            read_term(text)
        self.assertIs(caught.exception.value, text)

    def test_wrong_texts(self):
        for text in WRONG_TEXTS:
            with self.subTest(text=text):
                self.check_refused(text)

    def test_one_sign_changed(self):
        signs = " \na(),:=?$!xfAn1."
        right = wrong = 0
        for body, text in TEXTS:
            changed = [text[:at] + text[at + 1:] for at in range(len(text))]
            changed += [text[:at] + text[at] + text[at:] for at in range(len(text))]
            changed += [text[:at] + text[at + 1:at + 2] + text[at:at + 1] + text[at + 2:] for at in range(len(text))]
            changed += [text[:at] + sign + text[at:] for at in range(len(text) + 1) for sign in signs]
            changed += [text[:at] + sign + text[at + 1:] for at in range(len(text)) for sign in signs]
            for other in set(changed):
                if is_text_of_body(other):
                    right += 1
                    self.assertEqual(term_text(read_term(other)), other)
                else:
                    wrong += 1
                    self.check_refused(other)
        self.assertGreater(right, 1000)
        self.assertGreater(wrong, 5000)

    def test_values_that_are_no_strings(self):
        for value in values_of_every_kind() + [b"a", ["a"], ("a",), BODY]:
            if not isinstance(value, str):
                self.check_refused(value)


class WrongBodies(unittest.TestCase):
    def check_refused(self, body):
        with self.assertRaises(InvalidBody) as caught:
            term_text(body)
        self.assertIs(caught.exception.value, body)

    def test_values_that_are_no_bodies(self):
        for value in values_of_every_kind() + [("want", "$n", A, A), ("op", "f", (A,) * 4), ("name", "?h")]:
            if value not in (A, ("call", "t", (A,))):
                self.check_refused(value)

    def test_sizes_and_depths(self):
        self.check_refused(wide(401))
        self.check_refused(chain(61))


class Limits(unittest.TestCase):
    def check_refused(self, text):
        with self.assertRaises(InvalidText) as caught:
            read_term(text)
        self.assertIs(caught.exception.value, text)

    def test_sizes(self):
        self.assertEqual(read_term(term_text(wide(400))), wide(400))
        text = term_text(wide(400))
        self.check_refused(text.replace("a", "f(a)", 1))
        self.check_refused(text.replace("f(a)", "f(a, a)", 1))

    def test_depths(self):
        self.assertEqual(read_term("f(" * 59 + "a" + ")" * 59), chain(60))
        self.check_refused("f(" * 60 + "a" + ")" * 60)
        self.assertEqual(read_term(term_text(wide_and_deep(400, 60))), wide_and_deep(400, 60))
        for start, end in [
            ("!t(", ")"), ("let x = ", " in a"), ("let x = a in ", ""), ("want x = ", " in a"), ("want x = a in ", ""),
            ("each x of ", ": a"), ("each x of a: ", ""), ("f(a, ", ")"), ("f(", ", a)"),
        ]:
            self.assertEqual(term_text(read_term(start * 59 + "a" + end * 59)), start * 59 + "a" + end * 59)
            for levels in [60, 61, 300, 1000]:
                self.check_refused(start * levels + "a" + end * levels)
                self.check_refused(start * levels + "a")
                self.check_refused(start * levels)
                self.check_refused("a" + end * levels if end else "")

    def test_longest_texts(self):
        for kind in ("let", "want", "each"):
            body = long_body(kind, 399)
            text = term_text(body)
            self.assertGreater(len(text), 4000)
            self.assertEqual([size(body), read_term(text)], [399, body])
            self.check_refused(text + ")")
            self.check_refused(text[:-7])
            self.check_refused(text.replace("abcdef", "abcdefg"))
        for sign in "a( ,$!?":
            self.check_refused(sign * 4000)
        for text in ["f(" + ", ".join(["a"] * 1300) + ")", "f(" * 2000, "let x = " * 500, "f(a, " * 800, "a" * 4000 + "()"]:
            self.check_refused(text)


def long_body(kind, parts):
    """A body with so many parts and long names."""
    if parts < 3:
        return ("name", "abcdef")
    half = (parts - 1) // 4 * 2 + 1
    return (kind, "uvwxyz", long_body(kind, half), long_body(kind, parts - 1 - half))


if __name__ == "__main__":
    unittest.main()
