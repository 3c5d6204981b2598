"""Tests of mended, reserved_names and free_letters: promises 5, 7, 8, 9 and 111 to 113."""

from caughtnames import mending as module
from caughtnames.books import Book
from caughtnames.booktexts import book_text, read_book
from caughtnames.catches import apart, catches
from caughtnames.errors import InvalidBook, InvalidLetter, Reserved, TooLarge
from caughtnames.expansion import expand
from caughtnames.mending import free_letters, mended, reserved_names
from caughtnames.scopes import alike_terms
from caughtnames.terms import binders, uses
from caughtnames.termtexts import read_term
from chance import book_and_program
from checks import Checks
from references import marked, marked_leaves
from samples import values_of_every_kind

LETTERS = "abcdefghijklmnopqrstuvwxyz"
SWAP = "swap(?a, ?b) = let t = ?a in pair(?b, t)"
WANTED = "t(?h) = want x = a in ?h"
UNBOUND = "s($n) = $n\nt() = !s(x)"


class Interface(Checks):
    def test_signatures(self):
        self.check_signatures(module, ["mended(book, letter)", "reserved_names(book, letter)", "free_letters(book)"])

    def test_arguments_by_name(self):
        book = read_book(SWAP)
        self.assertEqual(mended(letter="q", book=book).names(), ["swap"])
        self.assertEqual(reserved_names(letter="t", book=book), ["t"])
        self.assertEqual(len(free_letters(book=book)), 25)


class Mended(Checks):
    def check_mended(self, text, expected, letter="q"):
        """Check the mended book, whose new names are given as Q and a number, in the order of text."""
        book = read_book(text)
        found = mended(book, letter)
        self.assertEqual(found.names(), book.names())
        names = [name for name in found.names() for name in binders(found[name].body) if name[0] != "$"]
        self.assertEqual(len(set(names)), len(names))
        self.assertTrue(all(name[0] == letter for name in names))
        for at, name in enumerate(names):
            expected = expected.replace(f"Q{at}.", name)
        self.assertEqual(book_text(found), expected)
        self.assertEqual(book_text(book), text)

    def test_example_of_the_document(self):
        book, program = read_book(SWAP), read_term("let t = one() in !swap(two(), t)")
        found = [catches(book, program), catches(mended(book, "q"), program), reserved_names(book, "t"),
            len(free_letters(book))]
        self.assertEqual(found, [[(0, 1, 0)], [], ["t"], 25])

    def test_books(self):
        for text, expected in [
            ("", ""), ("t() = f(a, b)", "t() = f(a, b)"), (SWAP, "swap(?a, ?b) = let Q0. = ?a in pair(?b, Q0.)"),
            ("t() = let x = x in x", "t() = let Q0. = x in Q0."), ("t() = each x of x: x", "t() = each Q0. of x: Q0."),
            # Binders within binders of one name, and uses in first parts.
            ("t() = let x = x in let x = x in let x = x in x",
             "t() = let Q0. = x in let Q1. = Q0. in let Q2. = Q1. in Q2."),
            ("t() = let x = let x = x in x in each x of x: f(x, y)",
             "t() = let Q0. = let Q1. = x in Q1. in each Q2. of Q0.: f(Q2., y)"),
            ("t() = f(let x = a in x, x, let y = x in f(x, y))",
             "t() = f(let Q0. = a in Q0., x, let Q1. = x in f(x, Q1.))"),
            # Names of operators, holes and templates stay.
            ("x(?x) = let x = x() in x(?x, x)", "x(?x) = let Q0. = x() in x(?x, Q0.)"),
            ("x(?x) = let x = x() in x(?x, x)\ny(?x) = let x = a in !x(f(x, ?x))",
             "x(?x) = let Q0. = x() in x(?x, Q0.)\ny(?x) = let Q1. = a in !x(f(Q1., ?x))"),
            # Name parameters stay, also where a name is between them and their uses.
            ("t($n) = let $n = n in f($n, n)", "t($n) = let $n = n in f($n, n)"),
            ("t($n) = let n = $n in let $n = n in f($n, n)", "t($n) = let Q0. = $n in let $n = Q0. in f($n, Q0.)"),
            ("t($n, $m) = each x of $n: each $m of x: f($n, $m, x)",
             "t($n, $m) = each Q0. of $n: each $m of Q0.: f($n, $m, Q0.)"),
            # Passed names that are bound, and those of name parameters.
            ("s($n) = $n\nt() = let x = a in !s(x)", "s($n) = $n\nt() = let Q0. = a in !s(Q0.)"),
            ("s($n) = $n\nt($m) = let x = a in f(!s($m), let x = x in !s(x))",
             "s($n) = $n\nt($m) = let Q0. = a in f(!s($m), let Q1. = Q0. in !s(Q1.))"),
            ("s($n, ?h) = let $n = ?h in ?h\nt(?h) = each x of a: !s(x, !s(x, f(x, ?h)))",
             "s($n, ?h) = let $n = ?h in ?h\nt(?h) = each Q0. of a: !s(Q0., !s(Q0., f(Q0., ?h)))"),
            ("s(?h) = ?h\nt() = !s(x)", "s(?h) = ?h\nt() = !s(x)"),
            # Names of one letter and of six.
            ("t() = let abcdef = a in let b = zzzzzz in f(abcdef, b, zzzzzz)",
             "t() = let Q0. = a in let Q1. = zzzzzz in f(Q0., Q1., zzzzzz)"),
        ]:
            self.check_mended(text, expected)
            for letter in free_letters(read_book(text)):
                self.check_mended(text, expected, letter)

    def test_letters_of_keywords(self):
        text = "t() = " + "".join(f"let x = f({'x' if at else 'a'}) in " for at in range(45)) + "x"
        for letter in "iowle":
            found = mended(read_book(text), letter)
            self.assertEqual(len(set(binders(found["t"].body))), 45)

    def test_five_binders_around_each_body(self):
        body = "let a = k() in let b = a in each d of b: let a = f(a, d) in each b of a: f(a, b, d)"
        text = "\n".join(f"t{letter}() = {body}" for letter in "abcde")
        expected = "\n".join(
            f"t{letter}() = let Q{at}. = k() in let Q{at + 1}. = Q{at}. in each Q{at + 2}. of Q{at + 1}.: "
            f"let Q{at + 3}. = f(Q{at}., Q{at + 2}.) in each Q{at + 4}. of Q{at + 3}.: f(Q{at + 3}., Q{at + 4}., Q{at + 2}.)"
            for letter, at in zip("abcde", range(0, 25, 5)))
        self.check_mended(text, expected)

    def test_many_binders(self):
        body = "f(" + ", ".join("let x = a in " * 55 + "x" for _ in range(3)) + ")"
        found = mended(read_book("\n".join(f"t{letter}() = {body}" for letter in "abcde")), "o")
        names = [name for template in found.names() for name in binders(found[template].body)]
        self.assertEqual([len(names), len(set(names))], [825, 825])

    def test_programs_mean_the_same(self):
        checked = caught = 0
        for seed in range(2500):
            book, program = book_and_program(seed, 10)
            try:
                found = mended(book, "q")
                term = apart(book, program)
            except (InvalidBook, TooLarge):
                continue
            self.assertTrue(alike_terms(term, apart(found, program)), book_text(book))
            checked += bool(catches(book, program))
            leaves, names = marked_leaves(marked(found, program)), binders(expand(found, program))
            uses_only = [part for part, above in leaves if part[0] == "name"]
            for use, text, meant in catches(found, program):
                self.assertIsNone(meant)
                self.assertNotEqual(uses_only[use][1][1], 0)
                self.assertFalse(names[text].startswith("q"))
                caught += 1
        self.assertGreater(min(checked, caught), 50)

    def test_programs_with_global_names_below_binders(self):
        book = read_book("t(?h) = let x = y in f(x, y, ?h)")
        for text, many in [("let y = a in !t(y)", 2), ("let x = a in !t(x)", 0), ("!t(f(x, y))", 0)]:
            program = read_term(text)
            found = mended(book, "q")
            self.assertEqual(len(catches(found, program)), many)
            self.assertTrue(alike_terms(apart(book, program), apart(found, program)))

    def test_a_mended_book_can_be_mended(self):
        book = mended(mended(read_book(SWAP), "q"), "w")
        self.assertEqual(reserved_names(book, "q"), [])
        self.assertEqual(len(reserved_names(book, "w")), 1)


class Names(Checks):
    def test_names(self):
        for text, letter, names in [
            ("", "a", []), (SWAP, "t", ["t"]), (SWAP, "s", []), (SWAP, "p", []), (SWAP, "a", []),
            ("t($a) = f($a, ab, aa, let a = abc in b)".replace("$a, ab, aa", "$a, g(ab, aa)"), "a",
             ["a", "aa", "ab", "abc"]),
            ("t() = f(ab, ab, b)\nu() = let ab = aa in ac()", "a", ["aa", "ab"]),
            ("s($n) = $n\nt($a) = f(!s(az), !s($a))", "a", ["az"]),
            ("t(?h) = want it = a in ?h", "i", ["it"]), ("t($n) = let $n = a in $n", "n", []),
            ("t($n) = each $n of n: nn", "n", ["n", "nn"]), ("t(?a) = a(?a)", "a", []),
        ]:
            self.assertEqual(reserved_names(read_book(text), letter), names, text)

    def test_free_letters(self):
        for text, taken in [
            ("", ""), (SWAP, "t"), ("t($a) = f($a, bc, let d = e() in x)", "bdx"), (WANTED, "ax"), (UNBOUND, "x"),
            ("\n".join(f"t{row[0]}() = f({', '.join(row[1:])})" for row in ["abcd", "eghi", "jklm", "nopq"]),
             "bcdghiklmopq"),
        ]:
            self.assertEqual(free_letters(read_book(text)), [letter for letter in LETTERS if letter not in taken], text)
        uses = "f(" + ", ".join("f(" + ", ".join(f"f({row[0]}z, {row[1]}z, {row[2]}z)" for row in rows) + ")"
                                for rows in (["abc", "def", "ghi"], ["jkl", "mno", "pqr"], ["stu", "vwx", "yza"])) + ")"
        self.assertEqual(free_letters(read_book(f"t() = {uses}")), [])

    def test_books_by_chance(self):
        for seed in range(200):
            book, program = book_and_program(seed)
            names = set()
            for template in book.names():
                names |= {name for name in uses(book[template].body) + binders(book[template].body) if name[0] != "$"}
            for letter in LETTERS:
                self.assertEqual(reserved_names(book, letter), sorted(name for name in names if name[0] == letter))
            self.assertEqual(free_letters(book), [letter for letter in LETTERS if not reserved_names(book, letter)])

    def test_lists_are_new(self):
        book = read_book(SWAP)
        reserved_names(book, "t").clear()
        free_letters(book).clear()
        self.assertEqual([reserved_names(book, "t"), len(free_letters(book))], [["t"], 25])


class Errors(Checks):
    def test_values_that_are_no_books(self):
        for value in values_of_every_kind():
            if not isinstance(value, Book):
                for function in (lambda: mended(value, "q"), lambda: mended(value, None),
                        lambda: reserved_names(value, "q"),
                                 lambda: reserved_names(value, None), lambda: free_letters(value)):
                    self.check_raises(InvalidBook, "value", value, function)

    def test_books_that_cannot_be_mended(self):
        for text in [
            WANTED, UNBOUND, "t() = f(want x = a in x, a)", "t() = a\nu() = let y = want x = a in x in y",
            "s(?h) = ?h\nt(?h) = !s(want x = a in ?h)",
            "s($n) = $n\nt() = let x = !s(x) in x", "s($n) = $n\nt() = f(let x = a in x, !s(x))",
            "s($n, $m) = $n\nt($n) = each x of a: !s(x, y)",
            "s($n) = $n\nt($n) = let $n = a in !s(n)", "s($n, ?h) = $n\nt() = let x = a in !s(x, !s(x, !s(y, c())))",
            "s($n) = $n\nt() = let x = a in !s(x)\nu() = !s(x)",
        ]:
            book = read_book(text)
            for letter in ("q", "x", "", None, "qq", 1):
                self.check_raises(InvalidBook, "value", book, lambda: mended(book, letter))
            self.assertIsInstance(reserved_names(book, "x"), list)
            self.assertIsInstance(free_letters(book), list)

    def test_letters(self):
        book = read_book(SWAP)
        for letter in values_of_every_kind() + ["A", "1", " ", "qq", "?", "$q", ["q"], ("q",), "\n", "abc"]:
            if letter != "a":
                self.check_raises(InvalidLetter, "value", letter, lambda: mended(book, letter))
                self.check_raises(InvalidLetter, "value", letter, lambda: reserved_names(book, letter))

    def test_reserved_letters(self):
        for text, letter, name in [
            (SWAP, "t", "t"), ("t() = f(zb, zc, za)", "z", "za"), ("t() = let zz = a in z", "z", "z"),
            ("t() = let zz = a in b", "z", "zz"),
            ("t() = b\nu() = za\nw() = z", "z", "z"), ("s($n) = $n\nt() = let zb = a in !s(zb)", "z", "zb"),
            ("t() = let ab = a in a", "a", "a"),
        ]:
            book = read_book(text)
            self.check_name(Reserved, name, lambda: mended(book, letter))

    def test_names_that_are_not_reserved(self):
        for text, letter in [("t($q) = $q", "q"), ("q(?q) = q(?q)", "q"), ("s($n) = $n\nt($q) = !s($q)", "q"),
                ("t($q) = let $q = a in $q", "q")]:
            self.assertEqual(book_text(mended(read_book(text), letter)), text)


if __name__ == "__main__":
    import unittest
    unittest.main()
