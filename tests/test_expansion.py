"""Tests of need_calls, expanded_size and expand: promises 2, 3, 5, 7, 8, 61 and 62."""

import inspect
import unittest

from caughtnames import expansion
from caughtnames.books import Book
from caughtnames.booktexts import book_text, read_book
from caughtnames.errors import InvalidBook, InvalidCall, InvalidProgram, TooLarge, UnknownTemplate
from caughtnames.expansion import expand, expanded_size, need_calls
from caughtnames.terms import calls, depth, is_term, size
from caughtnames.termtexts import read_term, term_text
from chance import book_and_program
from references import expanded, levels_of, without_replaced
from samples import chain, values_of_every_kind, wide

A = ("name", "a")
SWAP = "swap(?a, ?b) = let t = ?a in pair(?b, t)"
FUNCTIONS = (need_calls, expanded_size, expand)


def expanded_text(book, program):
    return term_text(expand(read_book(book), read_term(program)))


class Interface(unittest.TestCase):
    def test_signatures(self):
        for name in ("need_calls", "expanded_size", "expand"):
            function = getattr(expansion, name)
            self.assertEqual(str(inspect.signature(function)), "(book, program)")
            self.assertEqual(function.__module__, "caughtnames.expansion")

    def test_arguments_by_name(self):
        found = [function(program=A, book=Book()) for function in FUNCTIONS]
        self.assertEqual(found, [None, 1, A])


class Expand(unittest.TestCase):
    def test_examples_of_the_document(self):
        book, program = read_book(SWAP), read_term("let t = one() in !swap(two(), t)")
        self.assertEqual(
            [expanded_size(book, program), term_text(expand(book, program))],
            [7, "let t = one() in let t = two() in pair(t, t)"])
        self.assertEqual(
            expanded_text("both($m, $n) = let $m = a() in let $n = b() in f($m)", "!both(x, x)"),
            "let x = a() in let x = b() in f(x)")

    def test_programs(self):
        for book, program, found in [
            ("", "a", "a"), ("", "let x = f(a, x) in each y of x: x", "let x = f(a, x) in each y of x: x"),
            ("t() = c()", "a", "a"), ("t() = c()", "!t()", "c()"), ("t() = c()", "f(!t(), a, !t())", "f(c(), a, c())"),
            ("t() = c()", "let x = !t() in !t()", "let x = c() in c()"),
            ("t() = c()", "each x of !t(): !t()", "each x of c(): c()"),
            ("t(?h) = ?h", "!t(a)", "a"), ("t(?h) = ?h", "!t(!t(!t(a)))", "a"), ("t(?h) = c()", "!t(f(a, b))", "c()"),
            ("t(?h) = f(?h, ?h, ?h)", "!t(!t(a))", "f(f(a, a, a), f(a, a, a), f(a, a, a))"),
            ("t(?h, ?k) = f(?k, ?h)", "!t(a, !t(b, d))", "f(f(d, b), a)"),
            ("t(?h, $n, ?k) = let $n = ?h in f($n, ?k, n)", "!t(a, x, x)", "let x = a in f(x, x, n)"),
            ("t($n, $m) = each $m of $n: f($m, $n)", "!t(x, y)", "each y of x: f(y, x)"),
            ("t() = want x = a in x", "!t()", "let x = a in x"),
            ("t(?h) = want x = ?h in want y = x in f(x, y, ?h)", "!t(x)", "let x = x in let y = x in f(x, y, x)"),
            ("t(?h) = f(?h)\nu(?h) = !t(!t(?h))", "!u(!u(a))", "f(f(f(f(a))))"),
            ("t($n) = f($n)\nu($m) = !t($m)\nv($n, $m) = g(!u($m), !u($n), !u(k))", "!v(x, y)", "g(f(y), f(x), f(k))"),
            ("t($n) = f($n, n)\nu($n, $m) = !t($m)", "!u(x, y)", "f(y, n)"),
            ("t(?h) = let x = ?h in x\nu(?h, $n) = each $n of ?h: !t($n)", "!u(!t(b), y)",
             "each y of let x = b in x: let x = y in x"),
            ("t(?h, ?k) = ?k", "!t(!t(a, b), c())", "c()"), ("t(?h) = ?h\nu(?h) = f(?h, !t(g(?h)))", "!u(a)", "f(a, g(a))"),
            ("t(?h) = f(?h, ?h)\nu(?h) = !t(!t(?h))\nv(?h) = !u(c())", "!v(!u(!u(!u(a))))", "f(f(c(), c()), f(c(), c()))"),
            ("a(?a) = f(a(), ?a, a)", "!a(a)", "f(a(), a, a)"),
            ("t(?a) = g(?a)\nu(?b, ?a) = !t(f(?a, ?b))", "!u(a, b)", "g(f(b, a))"),
        ]:
            self.assertEqual(expanded_text(book, program), found, (book, program))
            self.assertEqual(expanded_size(read_book(book), read_term(program)), size(read_term(found)))

    def test_programs_by_chance(self):
        small = put_nowhere = 0
        for seed in range(1500):
            book, program = book_and_program(seed)
            if expanded_size(book, program) > 400 or too_many_steps(book, program):
                continue
            full = expanded(book, program)
            term = without_replaced(full)
            self.assertEqual(expanded_size(book, program), size(term))
            if levels_of(full) <= 60:
                small += 1
                self.assertEqual(expand(book, program), term)
                self.assertTrue(is_term(expand(book, program)))
            put_nowhere += size(term) < size(program)
        self.assertGreater(small, 1000)
        self.assertGreater(put_nowhere, 50)

    def test_nothing_is_changed(self):
        book, program = read_book(SWAP), read_term("!swap(!swap(a, b), b)")
        for function in FUNCTIONS:
            function(book, program)
        self.assertEqual([book_text(book), term_text(program)], [SWAP, "!swap(!swap(a, b), b)"])


def too_many_steps(book, program):
    """True if the other way to expand, which also replaces what is put nowhere, might be slow."""
    many = len(calls(program)) + 1
    for name in book.names():
        many *= len(calls(book[name].body)) + 1
    return many > 3000


class Checks(unittest.TestCase):
    def check(self, error, field, value, book, program):
        for function in FUNCTIONS:
            with self.assertRaises(error) as caught:
                function(book, program)
            if field == "name":
                self.assertEqual(caught.exception.name, value)
            else:
                self.assertIs(getattr(caught.exception, field), value)

    def test_values_that_are_no_books(self):
        for book in values_of_every_kind() + [SWAP, [read_book(SWAP)], Book]:
            if not isinstance(book, Book):
                self.check(InvalidBook, "value", book, book, A)
                self.check(InvalidBook, "value", book, book, None)

    def test_values_that_are_no_programs(self):
        for program in [
            ("hole", "h"), ("name", "$n"), ("let", "$n", A, A), ("want", "x", A, A), ["name", "a"], ("op", "f", [A]),
            ("call", "gone", (("hole", "h"),)), ("call", "gone", (("want", "x", A, A),)), chain(61), wide(401), "a",
        ]:
            self.check(InvalidProgram, "value", program, Book(), program)
        for program in values_of_every_kind():
            if program not in (A, ("call", "t", (A,))):
                self.check(InvalidProgram, "value", program, Book(), program)

    def test_unknown_templates_and_calls_that_do_not_fit(self):
        book = read_book("t(?h) = ?h\nn($n, ?h) = $n\nz() = !t(c())")
        for text, error, at in [
            ("!gone()", UnknownTemplate, 0), ("f(!t(a), !gone(!zzz()))", UnknownTemplate, 1),
            ("!t(!gone())", UnknownTemplate, 1), ("!gone(!t())", UnknownTemplate, 0), ("!t()", InvalidCall, 0),
            ("!t(a, a)", InvalidCall, 0), ("!t(!t())", InvalidCall, 1), ("!n(f(), a)", InvalidCall, 0),
            ("!n(!z(), a)", InvalidCall, 0), ("!n(a, !n(a, !z(a)))", InvalidCall, 2), ("!n(a)", InvalidCall, 0),
            ("let x = !t() in !gone()", InvalidCall, 0), ("let x = !gone() in !t()", UnknownTemplate, 0),
            ("!t(f(!gone(), !t()))", UnknownTemplate, 1), ("!t(f(!t(), !gone()))", InvalidCall, 1),
            ("each x of !z(): !z(!gone())", InvalidCall, 1), ("!t(!t(!t(!t(!zz()))))", UnknownTemplate, 4),
        ]:
            program = read_term(text)
            call = calls(program)[at]
            if error == UnknownTemplate:
                self.check(error, "name", call[1], book, program)
            else:
                self.check(error, "value", call, book, program)

    def test_calls_in_arguments_that_are_put_nowhere(self):
        book = read_book("t(?h) = c()")
        program = read_term("!t(!gone())")
        self.check(UnknownTemplate, "name", "gone", book, program)
        program = read_term("!t(!t())")
        self.check(InvalidCall, "value", program[2][0], book, program)

    def test_books_are_checked_ahead_of_sizes(self):
        book = read_book("t(?h) = f(?h, ?h, ?h)")
        self.check(UnknownTemplate, "name", "gone", book, read_term("!t(" * 8 + "!gone()" + ")" * 8))


class Sizes(unittest.TestCase):
    def check_too_large(self, book, program, count):
        with self.assertRaises(TooLarge) as caught:
            expand(book, program)
        self.assertEqual(caught.exception.count, count)
        self.assertIsNone(need_calls(book, program))

    def test_sizes_of_400_and_401(self):
        book = read_book("t(?h) = f(?h, ?h)\nu(?h) = ?h")
        inner = wide(199)
        self.assertEqual(size(expand(book, ("call", "t", (inner,)))), 399)
        program = ("op", "f", (("call", "t", (inner,)),))
        self.assertEqual([expanded_size(book, program), size(expand(book, program))], [400, 400])
        program = ("op", "f", (("op", "f", (("call", "t", (inner,)),)),))
        self.assertEqual(expanded_size(book, program), 401)
        self.check_too_large(book, program, 401)
        program = ("call", "t", (wide(200),))
        self.check_too_large(book, program, 401)
        self.assertEqual(expand(book, wide(400)), wide(400))

    def test_sizes_that_grow_by_doubling(self):
        book = read_book(
            "ta(?h) = f(?h, ?h)\ntb(?h) = !ta(!ta(!ta(!ta(?h))))\ntc(?h) = !tb(!tb(!tb(?h)))\nnone(?h) = c()")
        self.assertEqual(expanded_size(book, read_term("!ta(a)")), 3)
        self.assertEqual(expanded_size(book, read_term("!tb(a)")), 2 ** 5 - 1)
        self.assertEqual(expanded_size(book, read_term("!tc(a)")), 2 ** 13 - 1)
        program = read_term("!tc(" * 5 + "!ta(a)" + ")" * 5)
        self.assertEqual(expanded_size(book, program), 2 ** 62 - 1)
        self.check_too_large(book, program, 2 ** 62 - 1)
        self.assertEqual(expanded_size(book, ("call", "none", (program,))), 1)
        program = read_term("!tc(" * 59 + "a" + ")" * 59)
        self.check_too_large(book, program, 2 ** (12 * 59 + 1) - 1)

    def test_sizes_that_grow_from_template_to_template(self):
        row = "f(f({0}, {0}, {0}), f({0}, {0}, {0}), f({0}, {0}, {0}))"
        book = read_book("\n".join(
            [f"ta(?h) = {row.format('?h')}", f"tb(?h) = {row.format('!ta(?h)')}", f"tc(?h) = {row.format('!tb(?h)')}",
             f"td(?h) = {row.format('!tc(?h)')}", f"te(?h) = {row.format('!td(?h)')}"]))
        nodes = sum(9 ** power for power in range(5)) * 4
        self.assertEqual(expanded_size(book, read_term("!te(a)")), nodes + 9 ** 5)
        self.assertEqual(expanded_size(book, read_term("!te(!te(!te(a)))")), (nodes * (1 + 9 ** 5 + 9 ** 10)) + 9 ** 15)
        self.check_too_large(book, read_term("!te(a)"), nodes + 9 ** 5)

    def test_what_is_put_nowhere_does_not_count(self):
        book = read_book("none(?h) = c()\nfirst(?h, ?k) = ?h\nmany(?h) = f(f(?h, ?h, ?h), f(?h, ?h, ?h))")
        huge = "!many(" * 40 + "a" + ")" * 40
        for text, found in [
            (f"!none({huge})", "c()"), (f"!first(b, {huge})", "b"), (f"f(!none({huge}), !first(!none({huge}), {huge}))",
             "f(c(), c())"), (f"!many(!none({huge}))", "f(f(c(), c(), c()), f(c(), c(), c()))"),
        ]:
            self.assertEqual(expanded_size(book, read_term(text)), size(read_term(found)))
            self.assertEqual(term_text(expand(book, read_term(text))), found)


class Heights(unittest.TestCase):
    def check_too_large(self, book, text, count):
        program = read_term(text)
        with self.assertRaises(TooLarge) as caught:
            expand(read_book(book), program)
        self.assertEqual(caught.exception.count, count)
        self.assertLessEqual(expanded_size(read_book(book), program), max(400, count))

    def check_height(self, book, start, end, leaf, most):
        """Check that so many nestings, and no more, can be expanded; each makes one level more or several ones."""
        text = start * most + leaf + end * most
        self.assertTrue(is_term(expand(read_book(book), read_term(text))))
        if most < 59:
            text = start * (most + 1) + leaf + end * (most + 1)
            height = levels_of(expanded(read_book(book), read_term(text)))
            self.assertGreater(height, 60)
            self.check_too_large(book, text, height)

    def test_heights_of_60_and_61(self):
        self.assertEqual(expand(Book(), chain(60)), chain(60))
        self.assertEqual(expanded_text("t(?h) = ?h", "!t(" * 59 + "a" + ")" * 59), "a")
        self.assertEqual(expanded_text("t(?h) = f(?h)", "!t(" * 29 + "f(a)" + ")" * 29), "f(" * 30 + "a" + ")" * 30)
        self.check_too_large("t(?h) = f(?h)", "!t(" * 30 + "a" + ")" * 30, 61)
        self.check_too_large("t() = c()", "f(" * 59 + "!t()" + ")" * 59, 61)
        self.assertEqual(depth(expand(read_book("t() = c()"), read_term("f(" * 58 + "!t()" + ")" * 58))), 59)
        self.check_height("t(?h) = ?h", "!t(", ")", "a", 59)
        self.check_height("t(?h) = g(?h)", "!t(", ")", "a", 29)
        self.check_height("t(?h) = g(?h)", "!t(", ")", "f(a)", 29)

    def test_heights_that_only_calls_make(self):
        book = "ta(?h) = ?h\ntb(?h) = !ta(?h)\ntc(?h) = !tb(!tb(?h))\ntd(?h) = !tc(!tc(!tc(?h)))"
        self.check_height(book, "!tb(", ")", "a", 29)
        self.check_height(book, "!tc(", ")", "a", 11)
        self.check_height(book, "!td(", ")", "a", 3)
        self.check_too_large(book, "!td(!td(!td(!td(a))))", 65)
        self.assertEqual(expanded_text(book, "!td(!td(!td(!tc(!tb(!tb(!tb(a)))))))"), "a")
        self.check_too_large(book, "!td(!td(!td(!tc(!tb(!tb(!tb(f(a))))))))", 61)

    def test_where_a_hole_lies(self):
        deep = "f(" * 40 + "a" + ")" * 40
        for book, text, height in [
            (f"t(?h) = f(?h, {deep})", "!t(" + "f(" * 56 + "a" + ")" * 57, None),
            (f"t(?h) = f(?h, {deep})", "!t(" + "f(" * 57 + "a" + ")" * 58, None),
            (f"t(?h) = f(?h, {deep})", "f(!t(" + "f(" * 57 + "a" + ")" * 59, 61),
            (f"t(?h) = f(?h, f(?h, {deep}))", "!t(" + "f(" * 57 + "a" + ")" * 58, 61),
            ("t(?h, ?k) = f(?h, f(f(?k)))", "!t(" + "f(" * 57 + "a" + ")" * 57 + ", a)", None),
            ("t(?h, ?k) = f(?h, f(f(?k)))", "!t(a, " + "f(" * 56 + "a" + ")" * 57, 61),
            ("t(?h) = c()", "!t(" + "f(" * 58 + "a" + ")" * 59, None),
            ("t(?h) = c()\nu(?h) = !t(!t(!t(?h)))", "!u(" + "!u(" * 58 + "a" + ")" * 59, None),
            ("t(?h) = let x = ?h in x", "!t(" * 30 + "a" + ")" * 30, 61),
            ("t(?h) = let x = a in ?h", "!t(" * 30 + "a" + ")" * 30, 61),
            ("t($n, ?h) = each $n of ?h: $n", "!t(x, " * 30 + "a" + ")" * 30, 61),
        ]:
            if height is None:
                full = expanded(read_book(book), read_term(text))
                self.assertLessEqual(levels_of(full), 60)
                self.assertEqual(expand(read_book(book), read_term(text)), without_replaced(full))
            else:
                self.check_too_large(book, text, height)

    def test_the_size_is_told_ahead_of_the_height(self):
        book = read_book("t(?h) = f(?h, ?h)")
        with self.assertRaises(TooLarge) as caught:
            expand(book, read_term("!t(" * 40 + "a" + ")" * 40))
        self.assertEqual(caught.exception.count, 2 ** 41 - 1)
        book = read_book("t(?h) = f(?h, f(b, b, b))")
        program = read_term("!t(" * 59 + "a" + ")" * 59)
        self.assertEqual(expanded_size(book, program), 59 * 5 + 1)
        self.check_too_large(book_text(book), term_text(program), 120)

    def test_heights_by_chance(self):
        checked = 0
        for seed in range(500):
            book, program = book_and_program(seed, 10, 20)
            if expanded_size(book, program) > 340 or too_many_steps(book, program):
                continue
            height = levels_of(expanded(book, program))
            if height > 60:
                with self.assertRaises(TooLarge) as caught:
                    expand(book, program)
                self.assertEqual(caught.exception.count, height)
                continue
            for _ in range(60 - max(height, depth(program))):
                program, height = ("op", "f", (program,)), height + 1
            self.assertTrue(is_term(expand(book, program)))
            if depth(program) < 60:
                checked += 1
                with self.assertRaises(TooLarge) as caught:
                    expand(book, ("op", "f", (program,)))
                self.assertEqual([height, caught.exception.count], [60, 61])
        self.assertGreater(checked, 200)


if __name__ == "__main__":
    unittest.main()
