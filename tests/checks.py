"""Checks that several tests share."""

import inspect
import unittest

from caughtnames.booktexts import read_book
from caughtnames.errors import InvalidBook, InvalidCall, InvalidProgram, TooLarge, UnknownTemplate
from caughtnames.terms import calls
from caughtnames.termtexts import read_term
from samples import chain, values_of_every_kind, wide


class Checks(unittest.TestCase):
    def check_raises(self, error, field, value, function):
        """Check that a call raises an error whose field is the very value."""
        with self.assertRaises(error) as caught:
            function()
        self.assertIs(caught.exception.__class__, error)
        self.assertIs(getattr(caught.exception, field), value)

    def check_name(self, error, name, function):
        """Check that a call raises an error with a name, or a number."""
        with self.assertRaises(error) as caught:
            function()
        found = list(vars(caught.exception).values())
        self.assertEqual(found, [name])
        self.assertIs(found[0].__class__, name.__class__)

    def check_signatures(self, module, signatures):
        """Check the functions of a module, which are given as text with their parameters."""
        for text in signatures:
            name = text.partition("(")[0]
            function = getattr(module, name)
            self.assertEqual(name + str(inspect.signature(function)), text)
            self.assertEqual(function.__module__, module.__name__)

    def check_methods(self, kind, signatures):
        """Check the methods that a class itself has."""
        for text in signatures:
            name = text.partition("(")[0]
            self.assertEqual(name + str(inspect.signature(vars(kind)[name])), text)

    def check_book_and_program(self, function):
        """Check that a function of a book and a program raises what expand raises, in its order."""
        one = read_book("t(?h) = ?h\nn($n, ?h) = f($n, ?h)")
        for book in values_of_every_kind():
            if not hasattr(book, "with_template"):
                self.check_raises(InvalidBook, "value", book, lambda: function(book, None))
        for program in [None, "a", ["name", "a"], ("hole", "h"), ("want", "x", ("name", "a"), ("name", "x")),
                        ("call", "gone", (("name", "$n"),)), chain(61), wide(401)]:
            self.check_raises(InvalidProgram, "value", program, lambda: function(one, program))
        for text, error, at in [
            ("f(!t(a), !gone(!zzz()))", UnknownTemplate, 1), ("!t(!gone())", UnknownTemplate, 1),
            ("!gone(!t())", UnknownTemplate, 0), ("f(!t(), !gone())", InvalidCall, 0), ("!t(!t(a, a))", InvalidCall, 1),
            ("!n(f(), a)", InvalidCall, 0), ("!n(a, !n(!t(a), a))", InvalidCall, 1),
        ]:
            program = read_term(text)
            call = calls(program)[at]
            field, value = ("name", call[1]) if error == UnknownTemplate else ("value", call)
            self.check_raises(error, field, value, lambda: function(one, program))

    def check_room(self, function):
        """Check that a function of a book and a program takes what can be expanded and no more."""
        book = read_book("t(?h) = f(?h, ?h)\nu(?h) = ?h\nv(?h) = g(?h)\nnone(?h) = c()")
        doubled = ("call", "t", (wide(199),))
        function(book, ("op", "f", (doubled,)))
        self.check_name(TooLarge, 401, lambda: function(book, ("op", "f", (("op", "f", (doubled,)),))))
        self.check_name(TooLarge, 2 ** 41 - 1, lambda: function(book, read_term("!t(" * 40 + "a" + ")" * 40)))
        function(book, ("call", "none", (read_term("!t(" * 40 + "a" + ")" * 40),)))
        function(book, read_term("!u(" * 59 + "a" + ")" * 59))
        function(book, read_term("!v(" * 29 + "f(a)" + ")" * 29))
        self.check_name(TooLarge, 61, lambda: function(book, read_term("!v(" * 30 + "a" + ")" * 30)))
        self.check_name(TooLarge, 61, lambda: function(book, read_term("f(" * 57 + "!v(f(a))" + ")" * 57)))
