"""Tests of template_text, book_text, read_template and read_book: promises 5, 8 and 55."""

import inspect
import re
import unittest

from caughtnames import booktexts
from caughtnames.books import Book
from caughtnames.booktexts import book_text, read_book, read_template, template_text
from caughtnames.errors import CaughtError, InvalidBook, InvalidRow, InvalidTemplate, InvalidText
from caughtnames.templates import Template
from caughtnames.termtexts import read_term
from chance import book_and_program
from samples import chain, values_of_every_kind, wide

A = ("name", "a")
SWAP = "swap(?a, ?b) = let t = ?a in pair(?b, t)"

TEMPLATES = [
    (("nil", [], ("op", "c", ())), "nil() = c()"), (("a", [], A), "a() = a"), (("t", ["?a"], ("hole", "a")), "t(?a) = ?a"),
    (("t", ["$n"], A), "t($n) = a"), (("t", ["$n"], ("name", "$n")), "t($n) = $n"),
    (("swap", ["?a", "?b"], read_term("let t = ?a in pair(?b, t)")), SWAP),
    (("abcdef", ["?b", "$b", "?abcdef", "$abcdef", "?c"], read_term("want b = !u(?b) in each $b of x: ?c")),
     "abcdef(?b, $b, ?abcdef, $abcdef, ?c) = want b = !u(?b) in each $b of x: ?c"),
]

WRONG_TEXTS = [
    "", " ", "nil", "nil()", "nil() =", "nil() = ", "nil()= c()", "nil() =c()", "nil()  = c()", "nil() =  c()",
    "nil () = c()", "nil( ) = c()", " nil() = c()", "nil() = c() ", "nil() = c()\n", "\nnil() = c()", "nil()\n= c()",
    "nil = c()", "nil( = c()", "nil) = c()", "() = c()", "nil()) = c()", "nil(() = c()", "nil()() = c()", "c()", " = c()",
    ") = c()", "( = c()", "nil() == c()", "nil() = c() = c()", "nil() = nil() = c()", "let() = c()", "abcdefg() = c()",
    "?t() = c()", "!t() = c()", "$t() = c()", "Nil() = c()", "t(a) = a", "t(?a,?b) = ?a", "t(?a,  ?b) = ?a",
    "t(?a ,?b) = ?a", "t(?a, ) = ?a", "t(, ?a) = ?a", "t(?a , ?b) = ?a", "t( ?a) = ?a", "t(?a ) = ?a", "t(?a,) = ?a",
    "t(,) = a", "t(?) = a", "t($) = a", "t(? a) = a", "t(?let) = a", "t(?abcdefg) = a", "t(??a) = a", "t((?a)) = ?a",
    "t(?a, ?a) = ?a", "t(?a, ?b, ?c, ?d) = ?a", "t($a, $b, $c) = a", "t(?a) = ?b", "t(?a) = $a", "t($a) = ?a", "t() = ?a",
    "t(?a) = f(?a,?a)", "t(?a) = let x = ?a", "t(?a) = want $n = ?a in ?a", "t(?a) = (?a)", "t(?a) = ?a\nu() = c()",
    "t() = a b", "t() = f(a, a, a, a)", "t() = !u(a, a, a, a, a, a)",
]


class Interface(unittest.TestCase):
    def test_signatures(self):
        for name, signature in [
            ("template_text", "(template)"), ("book_text", "(book)"), ("read_template", "(text)"), ("read_book", "(text)"),
        ]:
            function = getattr(booktexts, name)
            self.assertEqual(str(inspect.signature(function)), signature)
            self.assertEqual(function.__module__, "caughtnames.booktexts")

    def test_arguments_by_name(self):
        self.assertEqual(template_text(template=read_template(text="t() = c()")), "t() = c()")
        self.assertEqual(book_text(book=read_book(text="t() = c()")), "t() = c()")


class Templates(unittest.TestCase):
    def test_example_of_the_document(self):
        swap = read_template(SWAP)
        self.assertEqual(
            [swap.holes(), swap.choices(), swap([("name", "x"), ("name", "y")]),
             template_text(Template("nil", [], ("op", "c", ())))],
            [["a", "b"], [], ("call", "swap", (("name", "x"), ("name", "y"))), "nil() = c()"])

    def test_texts(self):
        for given, text in TEMPLATES:
            self.assertEqual(template_text(Template(*given)), text)
            self.assertEqual(read_template(text), Template(*given))

    def test_largest_bodies(self):
        for body in (wide(400), chain(60)):
            template = Template("t", [], body)
            self.assertEqual(read_template(template_text(template)), template)
        for start, end in [("f(" * 60, ")" * 60), ("f(" * 500, ")" * 500), ("let x = a in " * 200, "")]:
            self.check_refused("t() = " + start + "a" + end)

    def check_refused(self, text):
        with self.assertRaises(InvalidText) as caught:
            read_template(text)
        self.assertIs(caught.exception.value, text)

    def test_wrong_texts(self):
        for text in WRONG_TEXTS:
            with self.subTest(text=text):
                self.check_refused(text)

    def test_one_sign_changed(self):
        right = wrong = 0
        for given, text in TEMPLATES:
            changed = [text[:at] + text[at + 1:] for at in range(len(text))]
            changed += [text[:at] + sign + text[at:] for at in range(len(text) + 1) for sign in " \na(),:=?$!1"]
            changed += [text[:at] + sign + text[at + 1:] for at in range(len(text)) for sign in " \na(),:=?$!1"]
            for other in set(changed):
                if is_text_of_template(other):
                    right += 1
                    self.assertEqual(template_text(read_template(other)), other)
                else:
                    wrong += 1
                    self.check_refused(other)
        self.assertGreater(right, 100)
        self.assertGreater(wrong, 1000)

    def test_values_that_are_no_strings(self):
        for value in values_of_every_kind() + [[SWAP], (SWAP,), b"nil() = c()"]:
            if not isinstance(value, str):
                self.check_refused(value)

    def test_values_that_are_no_templates(self):
        for value in values_of_every_kind() + [SWAP, [read_template(SWAP)], Template]:
            if not isinstance(value, Template):
                with self.assertRaises(InvalidTemplate) as caught:
                    template_text(value)
                self.assertIs(caught.exception.value, value)


def is_text_of_template(text):
    """True if text is that of a template, told from its head and the text of its body."""
    head = re.fullmatch(r"([a-z]{1,6})\(((?:[?$][a-z]{1,6}(?:, (?=[?$]))?)*)\) = ((?:.|\n)*)", text)
    if head is None or head.group(1) in ("let", "in", "each", "of", "want"):
        return False
    parameters = head.group(2).split(", ") if head.group(2) else []
    try:
        Template(head.group(1), parameters, read_term(head.group(3)))
    except CaughtError:
        return False
    return True


class Books(unittest.TestCase):
    def check_row(self, text, index):
        with self.assertRaises(InvalidRow) as caught:
            read_book(text)
        self.assertEqual(caught.exception.index, index)

    def test_example_of_the_document(self):
        self.check_row("swap(?a, ?b) = let t = ?a in pair(?b, t)\nswap() = c()", 1)

    def test_texts(self):
        self.assertEqual(read_book(""), Book())
        self.assertEqual(book_text(Book()), "")
        text = "one(?h, $n) = f(?h, $n)\ntwo() = !one(a, b)\nthree(?h) = !one(!two(), x)"
        templates = [read_template(line) for line in text.split("\n")]
        self.assertEqual(read_book(text), Book(templates))
        self.assertEqual(book_text(Book(templates)), text)
        self.assertEqual(read_book(SWAP).names(), ["swap"])
        for seed in range(100):
            book, program = book_and_program(seed)
            self.assertEqual(read_book(book_text(book)), book)

    def test_wrong_lines(self):
        for text, index in [
            (" ", 0), ("\n", 0), ("\n" + SWAP, 0), (SWAP + "\n", 1), (SWAP + "\n\nnil() = c()", 1), (SWAP + " ", 0),
            (SWAP + "\nnil()= c()", 1), ("nil() =c()\nnil()= c()", 0), ("a() = c()\nb() = !a()\nb", 2),
            ("a() = c()\nb() = !a()\nd() = !e()\ne() = c()", 2), ("a() = !a()", 0), ("a() = !b()\nb() = c()", 0),
            ("a() = c()\na() = c()", 1), ("a() = c()\nb() = !a(x)\nwrong", 1), ("a($n) = c()\nb() = !a(c())", 1),
            ("a() = c()\nb() = c()\nd() = c()\ne() = c()\nf() = c()\ng() = c()", 5),
            ("a() = c()\nb() = c()\nd() = c()\ne() = c()\nf() = c()\nwrong\nwrong", 5),
            ("a() = c()\nb() = c()\nd() = c()\ne() = c()\ne() = c()\ng() = c()", 4), ("a() = c()\r\nb() = c()", 0),
            ("a() = c()\n b() = c()", 1), ("a() = f(\n)", 0),
        ]:
            self.check_row(text, index)
        self.check_row("\n" * 3999, 0)

    def test_values_that_are_no_strings(self):
        for value in values_of_every_kind() + [[SWAP], (SWAP,)]:
            if not isinstance(value, str):
                with self.assertRaises(InvalidText) as caught:
                    read_book(value)
                self.assertIs(caught.exception.value, value)

    def test_strings_that_are_no_texts_of_books(self):
        for value in values_of_every_kind():
            if isinstance(value, str) and value != "":
                self.check_row(value, 0)

    def test_values_that_are_no_books(self):
        for value in values_of_every_kind() + ["", SWAP, [read_template(SWAP)], read_template(SWAP)]:
            if not isinstance(value, Book):
                with self.assertRaises(InvalidBook) as caught:
                    book_text(value)
                self.assertIs(caught.exception.value, value)


if __name__ == "__main__":
    unittest.main()
