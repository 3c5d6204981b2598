"""Tests of meant_scopes, each_catch, catches and apart: promises 3, 7, 8, 61, 62, 63 and 64."""

import inspect

from caughtnames import catches as module
from caughtnames.books import Book
from caughtnames.booktexts import book_text, read_book
from caughtnames.catches import apart, catches, each_catch, meant_scopes
from caughtnames.errors import InvalidBook, InvalidProgram, TooLarge
from caughtnames.expansion import expand
from caughtnames.scopes import alike_terms, scopes
from caughtnames.terms import binders, is_term, uses
from caughtnames.termtexts import read_term, term_text
from chance import Chance, book_and_program
from checks import Checks
from references import binders_meant
from samples import wide

A = ("name", "a")
SWAP = "swap(?a, ?b) = let t = ?a in pair(?b, t)"
FUNCTIONS = (meant_scopes, catches, apart, lambda book, program: list(each_catch(book, program)))

# A book, a program, what it is expanded to, and the meant binders of its uses.
CASES = [
    # A use of the program that a binder of a template catches, and one that it does not.
    ("t(?h) = let x = a in ?h", "!t(x)", "let x = a in x", [None, None]),
    ("t(?h) = let x = a in ?h", "!t(y)", "let x = a in y", [None, None]),
    ("t(?h) = each x of a: ?h", "let x = b in !t(x)", "let x = b in each x of a: x", [None, None, 0]),
    ("t(?h) = let x = a in let y = b in ?h", "!t(f(x, y))", "let x = a in let y = b in f(x, y)", [None] * 4),
    ("t(?h) = let x = a in ?h", "!t(let x = b in x)", "let x = a in let x = b in x", [None, None, 1]),
    # A use of a template that the program's binder catches.
    ("t() = x", "let x = a in !t()", "let x = a in x", [None, None]),
    ("t() = x", "each x of !t(): !t()", "each x of x: x", [None, None]),
    ("t() = let x = a in x", "let x = b in !t()", "let x = b in let x = a in x", [None, None, 1]),
    ("t(?h) = f(x, ?h)", "let x = a in !t(x)", "let x = a in f(x, x)", [None, None, 0]),
    ("t(?h) = let y = b in ?h", "let x = a in !t(f(x, y))", "let x = a in let y = b in f(x, y)", [None, None, 0, None]),
    # By a binder of another template, of another call of the same one, or of a call in the body.
    ("t() = x\nu(?h) = let x = a in ?h", "!u(!t())", "let x = a in x", [None, None]),
    ("t(?h) = f(x, let x = a in ?h)", "!t(!t(b))", "f(x, let x = a in f(x, let x = a in b))", [None] * 5),
    ("t(?h) = let x = a in f(x, ?h)", "!t(!t(x))", "let x = a in f(x, let x = a in f(x, x))", [None, 0, None, 1, None]),
    ("t(?h) = let x = ?h in x", "!t(!t(!t(x)))", "let x = let x = let x = x in x in x in x", [None, 2, 1, 0]),
    ("t(?h) = let x = a in ?h\nu() = !t(x)", "!u()", "let x = a in x", [None, None]),
    ("t(?h) = let x = a in ?h\nu() = let x = b in !t(x)", "!u()", "let x = b in let x = a in x", [None, None, 0]),
    ("t() = x\nu() = let x = a in f(x, !t())", "!u()", "let x = a in f(x, x)", [None, 0, None]),
    # A call in an argument that is put into several holes, or into none.
    ("w(?h) = f(?h, ?h)\ns(?k) = let y = b in f(y, ?k)", "!w(!s(y))", "f(let y = b in f(y, y), let y = b in f(y, y))",
     [None, 0, None, None, 1, None]),
    ("w(?h) = let y = ?h in ?h\ns() = each y of y: y", "!w(!s())", "let y = each y of y: y in each y of y: y",
     [None, 1, None, 2]),
    ("w(?h, ?k) = ?k\ns() = y", "let y = a in !w(!s(), y)", "let y = a in y", [None, 0]),
    # Two name parameters that get one name, or different ones.
    ("both($m, $n) = let $m = a() in let $n = b() in f($m)", "!both(x, x)", "let x = a() in let x = b() in f(x)", [1]),
    ("both($m, $n) = let $m = a() in let $n = b() in f($m)", "!both(x, y)", "let x = a() in let y = b() in f(x)", [0]),
    ("t($n) = let $n = a in x", "!t(x)", "let x = a in x", [None, None]),
    ("t($n) = let x = a in $n", "!t(x)", "let x = a in x", [None, None]),
    ("t($n) = let x = a in f($n, x)", "let x = b in !t(x)", "let x = b in let x = a in f(x, x)", [None, None, 0, 1]),
    ("t($n, ?h) = let $n = a in ?h", "!t(x, f(x, y))", "let x = a in f(x, y)", [None, 0, None]),
    ("t($n, ?h) = let $n = $n in ?h", "!t(x, x)", "let x = x in x", [None, 0]),
    # Names that are passed on through two and three templates.
    ("ta($n) = f($n)\ntb($n) = let x = b in !ta($n)", "let x = a in !tb(x)", "let x = a in let x = b in f(x)",
     [None, None, 0]),
    ("ta($n) = f($n)\ntb($n) = let x = b in !ta($n)\ntc($n) = let x = d in !tb($n)", "let x = a in !tc(x)",
     "let x = a in let x = d in let x = b in f(x)", [None, None, None, 0]),
    ("ta($n) = f($n)\ntb($n) = let x = b in !ta(x)\ntc($n) = let x = d in !tb($n)", "let x = a in !tc(x)",
     "let x = a in let x = d in let x = b in f(x)", [None, None, None, 2]),
    ("ta($n, ?h) = let $n = a in ?h\ntb($n, ?h) = !ta($n, f($n, x, ?h))\ntc($n, ?h) = !tb($n, ?h)", "!tc(x, x)",
     "let x = a in f(x, x, x)", [None, 0, None, 0]),
    ("ta($n, ?h) = let $n = a in ?h\ntb(?h) = !ta(x, f(x, ?h))", "!tb(x)", "let x = a in f(x, x)", [None, 0, None]),
    # Wanted binders: for the uses of the writer of the call, and for those of the template.
    ("t(?h) = want it = a in ?h", "!t(it)", "let it = a in it", [None, 0]),
    ("t(?h) = want it = a in f(it, ?h)", "!t(it)", "let it = a in f(it, it)", [None, 0, 0]),
    ("t(?h) = want it = it in ?h", "!t(it)", "let it = it in it", [None, 0]),
    ("t(?h) = let it = a in want it = b in let it = d in ?h", "!t(it)",
     "let it = a in let it = b in let it = d in it", [None, None, None, 1]),
    ("t($n) = want x = a in $n", "!t(x)", "let x = a in x", [None, 0]),
    ("t(?h) = want it = a in ?h", "!t(!t(it))", "let it = a in let it = a in it", [None, None, 1]),
    ("t(?h) = want it = a in ?h", "!t(let it = it in it)", "let it = a in let it = it in it", [None, 0, 1]),
    # They do not bind what the call passes on from elsewhere.
    ("t(?h) = want it = a in ?h\nu(?h) = f(it, !t(f(it, ?h)))", "!u(it)", "f(it, let it = a in f(it, it))",
     [None, None, 0, None]),
    ("t(?h) = want it = a in ?h\nu(?h) = !t(?h)", "!u(it)", "let it = a in it", [None, None]),
    ("t($n) = want x = a in $n\nu($n) = !t($n)", "!u(x)", "let x = a in x", [None, None]),
    ("t($n) = want x = a in $n\nu() = !t(x)", "!u()", "let x = a in x", [None, 0]),
    ("t(?h) = want it = a in ?h\nu() = it", "!t(!u())", "let it = a in it", [None, None]),
    # Wanted binders within a called template, and in an argument of a call in a body.
    ("t() = want it = a in it\nu() = want it = b in f(it, !t())", "!u()", "let it = b in f(it, let it = a in it)",
     [None, 0, None, 1]),
    ("t(?h) = let y = a in ?h\nu(?h) = !t(want it = b in f(it, ?h))", "!u(it)", "let y = a in let it = b in f(it, it)",
     [None, None, 1, 1]),
    ("t(?h) = want it = a in ?h\nu(?h) = !t(want it = b in ?h)", "!u(it)", "let it = a in let it = b in it",
     [None, None, 1]),
    ("t(?h) = want it = a in ?h\nu(?h) = want it = b in !t(?h)", "!u(it)", "let it = b in let it = a in it",
     [None, None, 0]),
    # Uses in the first part of a binder of their name, and global names.
    ("t(?h) = let x = ?h in x", "!t(x)", "let x = x in x", [None, 0]),
    ("t() = let x = x in x", "!t()", "let x = x in x", [None, 0]),
    ("t() = g(x)", "f(!t(), let x = x in !t())", "f(g(x), let x = x in g(x))", [None, None, None]),
]


class Interface(Checks):
    def test_signatures(self):
        self.check_signatures(module, [
            "meant_scopes(book, program)", "each_catch(book, program)", "catches(book, program)",
            "apart(book, program)"])
        self.assertTrue(inspect.isgeneratorfunction(each_catch))

    def test_arguments_by_name(self):
        book, program = read_book("t() = x"), read_term("let x = a in !t()")
        self.assertEqual(meant_scopes(program=program, book=book), [None, None])
        self.assertEqual(catches(program=program, book=book), [(1, 0, None)])
        self.assertEqual(list(each_catch(program=program, book=book)), [(1, 0, None)])
        self.assertEqual(uses(apart(program=program, book=book)), ["a", "x"])


class Catches(Checks):
    def test_examples_of_the_document(self):
        book, program = read_book(SWAP), read_term("let t = one() in !swap(two(), t)")
        self.assertEqual([meant_scopes(book, program), catches(book, program)], [[0, 1], [(0, 1, 0)]])
        self.assertEqual(catches(book, read_term("!swap(t, u)")), [])

    def test_cases(self):
        for book, program, text, meant in CASES:
            book, program = read_book(book), read_term(program)
            term = expand(book, program)
            self.assertEqual(term_text(term), text)
            self.assertEqual(meant_scopes(book, program), meant, (book_text(book), text))
            caught = [(use, *pair) for use, pair in enumerate(zip(scopes(term), meant)) if pair[0] != pair[1]]
            self.assertEqual(catches(book, program), caught)
            self.assertEqual(list(each_catch(book, program)), caught)
            self.assertEqual(scopes(apart(book, program)), meant)

    def test_all_numbers_are_integers(self):
        book, program = read_book("t(?h) = let x = a in ?h"), read_term("let x = b in !t(f(x, x))")
        self.assertEqual(catches(book, program), [(2, 1, 0), (3, 1, 0)])
        for catch in catches(book, program):
            self.assertEqual([item.__class__ for item in catch], [int, int, int])

    def test_programs_by_chance(self):
        caught = 0
        for seed in range(1500):
            book, program = book_and_program(seed)
            try:
                found = catches(book, program)
            except TooLarge:
                continue
            pairs = binders_meant(book, program)
            self.assertEqual(meant_scopes(book, program), [meant for text, meant in pairs])
            self.assertEqual(found, [(use, *pair) for use, pair in enumerate(pairs) if pair[0] != pair[1]])
            caught += bool(found)
        self.assertGreater(caught, 300)

    def test_programs_without_calls_have_no_catches(self):
        for seed in range(200):
            term = Chance(seed).body(30)
            self.assertEqual(catches(read_book(SWAP), term), [])
            self.assertEqual(meant_scopes(Book(), term), scopes(term))

    def test_nothing_is_changed_and_lists_are_new(self):
        book, program = read_book(SWAP), read_term("!swap(!swap(a, t), t)")
        for function in (meant_scopes, catches):
            first = function(book, program)
            self.assertIsInstance(first, list)
            kept = list(first)
            first.append("more")
            self.assertEqual(function(book, program), kept)
        self.assertEqual([book_text(book), term_text(program)], [SWAP, "!swap(!swap(a, t), t)"])


class Generator(Checks):
    def test_catches_are_told_one_by_one(self):
        told = each_catch(read_book("t(?h) = let x = a in ?h"), read_term("!t(f(x, y, x))"))
        self.assertTrue(inspect.isgenerator(told))
        self.assertEqual([next(told), next(told), next(told, None), next(told, None)],
            [(1, 0, None), (3, 0, None), None, None])

    def test_nothing_is_raised_ahead_of_the_first_item(self):
        told = each_catch(None, None)
        self.check_raises(InvalidBook, "value", None, lambda: next(told))
        program = ["name", "a"]
        told = each_catch(Book(), program)
        self.check_raises(InvalidProgram, "value", program, lambda: next(told))
        told = each_catch(read_book("t(?h) = f(?h, ?h)"), ("call", "t", (wide(200),)))
        self.check_name(TooLarge, 401, lambda: next(told))


class Apart(Checks):
    def check_apart(self, book, program):
        term, expanded, meant = apart(book, program), expand(book, program), meant_scopes(book, program)
        self.assertTrue(is_term(term))
        self.assertEqual(scopes(term), meant)
        self.assertEqual(len(set(binders(term))), len(binders(term)))
        free = [name for name, number in zip(uses(expanded), meant) if number is None]
        self.assertEqual([name for name, number in zip(uses(term), meant) if number is None], free)
        self.assertEqual(set(free) & set(binders(term)), set())
        self.assertEqual(without_names(term), without_names(expanded))

    def test_cases(self):
        for book, program, text, meant in CASES:
            self.check_apart(read_book(book), read_term(program))

    def test_programs_by_chance(self):
        for seed in range(600):
            book, program = book_and_program(seed)
            try:
                expand(book, program)
            except TooLarge:
                continue
            self.check_apart(book, program)

    def test_programs_without_catches(self):
        book, program = read_book(SWAP), read_term("let u = one() in !swap(two(), u)")
        self.assertTrue(alike_terms(apart(book, program), expand(book, program)))

    def test_free_names_of_one_letter(self):
        row = "k()"
        for letter in "abcdefghijklmnopqrstuvwxyz":
            row = f"f({letter}, let x = {letter} in !t({letter}), {row})"
        self.check_apart(read_book("t(?h) = let a = b in f(?h, a)"), read_term(row))

    def test_many_binders(self):
        row = read_term("let x = a in " * 49 + "x")
        program = ("op", "f", (row, ("op", "f", (row, row, row))))
        self.assertEqual(len(binders(program)), 196)
        self.check_apart(Book(), program)


def without_names(term):
    """A term without the names of its binders and uses."""
    if term[0] == "name":
        return "name"
    if term[0] == "op":
        return ("op", term[1], [without_names(inner) for inner in term[2]])
    return (term[0], without_names(term[2]), without_names(term[3]))


class Errors(Checks):
    def test_books_and_programs(self):
        for function in FUNCTIONS:
            self.check_book_and_program(function)

    def test_sizes_and_heights(self):
        for function in FUNCTIONS:
            self.check_room(function)


if __name__ == "__main__":
    import unittest
    unittest.main()
