"""Tests of fits and Book: promises 4, 5, 7, 8, 53 and 54."""

import inspect
import unittest

from caughtnames import books
from caughtnames.books import Book, fits
from caughtnames.booktexts import read_template
from caughtnames.errors import (
    Duplicate, InvalidBook, InvalidCall, InvalidTemplate, StillCalled, UnknownTemplate)
from caughtnames.templates import Template
from caughtnames.terms import calls
from caughtnames.termtexts import read_term
from samples import values_of_every_kind

A = ("name", "a")


def templates_of(*texts):
    return [read_template(text) for text in texts]


ONE = "one(?h, $n) = f(?h, $n)"
TWO = "two(?h) = !one(?h, x)"
SIX = [f"t{letter}() = c()" for letter in "abcdef"]


class Interface(unittest.TestCase):
    def test_signatures(self):
        for function, signature in [
            (Book.__init__, "(self, templates=())"), (Book.names, "(self)"), (Book.__len__, "(self)"),
            (Book.with_template, "(self, template)"), (Book.without, "(self, name)"), (Book.__eq__, "(self, other)"),
        ]:
            self.assertEqual(str(inspect.signature(function)), signature)
        for name in ("__init__", "names", "__len__", "with_template", "without", "__eq__", "__getitem__", "__contains__"):
            self.assertIn(name, vars(Book))
        self.assertEqual(str(inspect.signature(fits)), "(template, call)")
        self.assertEqual([Book.__module__, fits.__module__], ["caughtnames.books"] * 2)
        self.assertIs(books.Book, Book)

    def test_arguments_by_name(self):
        one, two = templates_of(ONE, TWO)
        self.assertEqual(Book(templates=[one]).with_template(template=two).names(), ["one", "two"])
        self.assertEqual(Book([one, two]).without(name="two").names(), ["one"])
        self.assertIs(fits(call=("call", "t", ()), template=Template("t", [], A)), True)


class Fits(unittest.TestCase):
    def test_calls(self):
        for parameters, text, expected in [
            ([], "!t()", True), ([], "!other()", True), ([], "!t(a)", False), (["?a"], "!t()", False),
            (["?a"], "!t(f(a))", True), (["?a"], "!t(a)", True), (["?a"], "!t(a, a)", False), (["?a"], "!t(?h)", True),
            (["$n"], "!t(a)", True), (["$n"], "!t($m)", True), (["$n"], "!t(a())", False), (["$n"], "!t(?h)", False),
            (["$n"], "!t(!u())", False), (["$n"], "!t(let x = a in x)", False), (["$n"], "!t(each x of a: x)", False),
            (["$n"], "!t(want x = a in x)", False), (["$n", "?a"], "!t(a, f())", True), (["$n", "?a"], "!t(f(), a)", False),
            (["?a", "$n"], "!t(f(), a)", True), (["?a", "$n"], "!t(a, f())", False),
            (["?a", "$n", "?b", "$m", "?c"], "!t(f(), a, !u(), $k, ?h)", True),
            (["?a", "$n", "?b", "$m", "?c"], "!t(f(), a, !u(), f(), ?h)", False),
        ]:
            self.assertIs(fits(Template("t", parameters, A), read_term(text)), expected, (parameters, text))


class Making(unittest.TestCase):
    def check(self, error, field, value, templates):
        with self.assertRaises(error) as caught:
            Book(templates)
        found = getattr(caught.exception, field)
        self.assertEqual(found, value)
        return found

    def test_books(self):
        for count in range(6):
            for given in (templates_of(*SIX[:count]), tuple(templates_of(*SIX[:count]))):
                book = Book(given)
                self.assertEqual([len(book), book.names()], [count, ["ta", "tb", "tc", "td", "te"][:count]])
                for name, template in zip(book.names(), given):
                    self.assertIs(book[name], template)
        self.assertEqual([len(Book()), Book().names()], [0, []])

    def test_calls_of_earlier_templates(self):
        texts = [
            "a(?h, $n) = let $n = ?h in $n", "b(?h) = !a(?h, x)", "c($m) = !a(!b(!b($m)), $m)",
            "d() = want x = !c(y) in !b(!a(f(!c(x)), z))", "e(?h) = !d()"]
        self.assertEqual(Book(templates_of(*texts)).names(), list("abcde"))

    def test_the_list_is_copied(self):
        given = templates_of(ONE)
        book = Book(given)
        given.append(None)
        book.names().append("x")
        self.assertEqual([len(book), book.names()], [1, ["one"]])

    def test_values_that_are_no_lists_of_templates(self):
        one = read_template(ONE)
        wrong = [one, {"one": one}, [one, None], [None, one], [[one]], [one, ONE], (one, "x"), templates_of(*SIX),
                 [Book()], Template, [Template]]
        for templates in wrong + [value for value in values_of_every_kind() if value not in ([], ())]:
            self.assertIs(self.check(InvalidBook, "value", templates, templates), templates)
        same = [one, one, one, one, one, one]
        self.assertIs(self.check(InvalidBook, "value", same, same), same)
        self.check(InvalidBook, "value", [one, one, None], [one, one, None])

    def test_duplicates(self):
        self.check(Duplicate, "name", "a", templates_of("a() = c()", "a() = c()"))
        self.check(Duplicate, "name", "b", templates_of("a() = c()", "b() = c()", "c() = c()", "b(?h) = ?h", "a() = c()"))
        self.check(Duplicate, "name", "a", templates_of("a() = !gone()", "b() = !a(x)", "a() = c()"))
        self.check(Duplicate, "name", "b", templates_of("a() = !a()", "b() = c()", "b() = c()"))

    def test_unknown_templates(self):
        for texts, name in [
            (["a() = !a()"], "a"), (["a() = !b()", "b() = c()"], "b"), (["a() = c()", "b() = !z()"], "z"),
            (["a() = c()", "b() = f(!a(), !y(!z()), !x())"], "y"), (["a(?h) = ?h", "b() = !a(!z())"], "z"),
            (["a(?h) = ?h", "b() = !a(!b())"], "b"), (["a() = !z()", "b() = !y()"], "z"),
            (["a() = c()", "b() = !z(!a(x))"], "z"), (["b() = !z()", "a() = c()", "d() = !a(x)"], "z"),
        ]:
            self.check(UnknownTemplate, "name", name, templates_of(*texts))

    def test_calls_that_do_not_fit(self):
        for texts, text in [
            (["a() = c()", "b() = !a(x)"], "!a(x)"), (["a(?h) = ?h", "b() = !a()"], "!a()"),
            (["a($n) = $n", "b() = !a(c())"], "!a(c())"), (["a($n) = $n", "b(?h) = !a(?h)"], "!a(?h)"),
            (["a(?h) = ?h", "b() = !a(!a(x, y))"], "!a(x, y)"), (["a(?h) = ?h", "b() = !a(!a(), !z())"], "!a(!a(), !z())"),
            (["a() = c()", "b() = f(!a(x), !z())"], "!a(x)"), (["a() = c()", "b() = !a(x)", "d() = !z()"], "!a(x)"),
        ]:
            templates = templates_of(*texts)
            call = self.check(InvalidCall, "value", read_term(text), templates)
            self.assertTrue(any(call is other for template in templates for other in calls(template.body)))
        self.check(UnknownTemplate, "name", "z", templates_of("a() = c()", "b() = f(!z(), !a(x))"))
        body = read_term("!a(c())")
        found = self.check(
            InvalidCall, "value", body, templates_of("a($n) = $n", "b($m) = !a($m)") + [Template("d", [], body)])
        self.assertIs(found, body)


class Items(unittest.TestCase):
    def setUp(self):
        self.templates = templates_of(ONE, TWO)
        self.book = Book(self.templates)

    def test_items(self):
        self.assertIs(self.book["one"], self.templates[0])
        self.assertIs(self.book["two"], self.templates[1])
        for name in values_of_every_kind() + ["three", "one ", 0, ("one",), ["one"], self.templates[0]]:
            with self.assertRaises(UnknownTemplate) as caught:
                self.book[name]
            self.assertIs(caught.exception.name, name)
        with self.assertRaises(UnknownTemplate):
            Book()["one"]

    def test_in(self):
        self.assertIs("one" in self.book, True)
        self.assertIs("two" in self.book, True)
        for value in values_of_every_kind() + ["three", "on", 0, ("one",), ["one"], self.templates[0], {"one": 1}]:
            self.assertIs(value in self.book, False)
        self.assertIs("one" in Book(), False)

    def test_equality(self):
        one, two = templates_of("a() = c()", "b() = c()")
        self.assertTrue(Book([one, two]) == Book(tuple(templates_of("a() = c()", "b() = c()"))))
        self.assertFalse(Book([one, two]) != Book([one, two]))
        self.assertTrue(Book() == Book([]))
        for other in [Book([two, one]), Book([one]), Book(), Book([one, two] + templates_of("d() = c()")),
                      Book([one] + templates_of("b() = d()")), [one, two], (one, two), one, None]:
            self.assertFalse(Book([one, two]) == other)
            self.assertTrue(Book([one, two]) != other)
        for value in values_of_every_kind():
            if not isinstance(value, Book):
                self.assertFalse(Book() == value)


class Changed(unittest.TestCase):
    def setUp(self):
        self.templates = templates_of(ONE, TWO)
        self.book = Book(self.templates)

    def check(self, error, field, value, function):
        with self.assertRaises(error) as caught:
            function()
        self.assertEqual(getattr(caught.exception, field), value)
        self.assertEqual(self.book, Book(templates_of(ONE, TWO)))
        return getattr(caught.exception, field)

    def test_with_template(self):
        three, other_one = templates_of("three() = !two(a)", "one(?k, $m) = $m")
        self.assertEqual(self.book.with_template(three), Book(self.templates + [three]))
        self.assertEqual(self.book.with_template(other_one), Book([other_one, self.templates[1]]))
        self.assertEqual(self.book.with_template(templates_of(TWO)[0]), self.book)
        self.assertEqual(Book().with_template(three.__class__("x", [], A)).names(), ["x"])
        self.assertEqual(self.book.names(), ["one", "two"])
        self.assertIsInstance(self.book.with_template(three), Book)

    def test_no_templates(self):
        for value in values_of_every_kind() + [[self.templates[0]], self.book, Template]:
            if not isinstance(value, Template):
                self.assertIs(self.check(InvalidTemplate, "value", value, lambda: self.book.with_template(value)), value)

    def test_a_sixth_template(self):
        given = templates_of(*SIX)
        book = Book(given[:5])
        with self.assertRaises(InvalidBook) as caught:
            book.with_template(given[5])
        self.assertEqual(caught.exception.value, given)
        self.assertIsInstance(caught.exception.value, list)
        wrong = read_template("six() = !gone()")
        with self.assertRaises(InvalidBook) as caught:
            book.with_template(wrong)
        self.assertEqual(caught.exception.value, given[:5] + [wrong])
        self.assertEqual(len(book.with_template(read_template("ta() = d()"))), 5)
        self.assertEqual(book, Book(given[:5]))

    def test_templates_that_break_the_book(self):
        for text, error, field, value in [
            ("three() = !four()", UnknownTemplate, "name", "four"), ("three() = !three()", UnknownTemplate, "name", "three"),
            ("one(?h, $n) = !two(?h)", UnknownTemplate, "name", "two"),
            ("three() = !one(a)", InvalidCall, "value", read_term("!one(a)")),
            ("one(?h) = ?h", InvalidCall, "value", read_term("!one(?h, x)")),
            ("one($n, ?h) = ?h", InvalidCall, "value", read_term("!one(?h, x)")),
            ("one() = !zero()", UnknownTemplate, "name", "zero"),
        ]:
            template = read_template(text)
            self.check(error, field, value, lambda: self.book.with_template(template))
        call = self.check(
            InvalidCall, "value", read_term("!one(?h, x)"), lambda: self.book.with_template(read_template("one() = c()")))
        self.assertIs(call, self.templates[1].body)

    def test_without(self):
        self.assertEqual(self.book.without("two"), Book(self.templates[:1]))
        self.assertEqual(self.book.without("two").without("one"), Book())
        book = Book(templates_of("a() = c()", "b() = c()", "d() = !a()"))
        self.assertEqual(book.without("b").names(), ["a", "d"])
        self.assertEqual(book.names(), ["a", "b", "d"])

    def test_without_a_template_that_is_called(self):
        self.check(StillCalled, "name", "two", lambda: self.book.without("one"))
        book = Book(templates_of("a() = c()", "b() = c()", "d(?h) = ?h", "e() = f(!d(!a()))", "g() = !a()"))
        for name, other in [("a", "e"), ("d", "e")]:
            with self.assertRaises(StillCalled) as caught:
                book.without(name)
            self.assertEqual(caught.exception.name, other)
        self.assertEqual(book.without("b").names(), ["a", "d", "e", "g"])

    def test_without_a_template_that_is_not_there(self):
        for name in values_of_every_kind() + ["three", ("one",), ["one"], self.templates[0]]:
            found = self.check(UnknownTemplate, "name", name, lambda: self.book.without(name))
            self.assertIs(found, name)


if __name__ == "__main__":
    unittest.main()
