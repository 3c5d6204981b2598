"""Tests of seen and ever_seen: promises 5, 7, 8, 9, 93 and 94."""

from caughtnames import comparisons as module
from caughtnames.books import Book
from caughtnames.booktexts import book_text, read_book, read_template
from caughtnames.catches import apart, catches
from caughtnames.comparisons import ever_seen, seen
from caughtnames.errors import InvalidBook, InvalidProgram, TooLarge, UnknownTemplate
from caughtnames.expansion import expand
from caughtnames.templates import Template
from caughtnames.terms import is_term
from caughtnames.termtexts import read_term
from caughtnames.values import value_rows
from caughtnames.verdicts import at_site, call_of, some_catch
from chance import Chance, book_and_program
from checks import Checks
from references import every_choice, names_in_bodies, tree_of_names
from samples import chain, values_of_every_kind, wide

C = ("op", "c", ())
EXAMPLE = "swap(?a, ?b) = let t = ?a in pair(?b, t)\nidle(?a) = let t = k() in let u = ?a in t"
BOTH = "both($m) = want x = let $m = $m in x in $m"


class Interface(Checks):
    def test_signatures(self):
        self.check_signatures(module, ["seen(book, program)", "ever_seen(book, name)"])

    def test_arguments_by_name(self):
        book = read_book(BOTH)
        self.assertIs(seen(program=read_term("let x = k() in !both(x)"), book=book), True)
        self.assertIsNotNone(ever_seen(name="both", book=book))


class Seen(Checks):
    def test_examples_of_the_document(self):
        book, program = read_book(BOTH), read_term("let x = k() in !both(x)")
        self.assertEqual([seen(book, program), seen(book, program[3])], [True, False])

    def test_programs(self):
        for book, program, caught, found in [
            ("t(?h) = let x = a in ?h", "!t(x)", True, True), ("t(?h) = let x = a in ?h", "!t(y)", False, False),
            ("t(?h) = let x = x in ?h", "!t(x)", True, False), ("t(?h) = each x of a: ?h", "!t(x)", True, True),
            # Caught uses in parts that no value shows.
            ("t(?h) = let x = a in let y = ?h in b", "!t(x)", True, False),
            ("t(?h) = let x = a in let y = ?h in y", "!t(x)", True, True),
            ("t(?h) = let x = a in ?h", "let y = !t(x) in b", True, False),
            ("t(?h) = let x = a in ?h", "let y = !t(x) in y", True, True),
            ("t(?h) = let x = a in ?h", "let y = !t(x) in let z = y in c()", True, False),
            ("t() = x", "let x = a in !t()", True, True), ("t() = x", "let x = x in !t()", True, False),
            ("t() = x", "let x = a in let y = !t() in x", True, False), ("t() = x", "each x of a: !t()", True, True),
            ("t() = let y = x in c()", "each x of a: !t()", True, False),
            # Binders with the same value as the meant ones.
            ("t(?h) = let x = a in ?h", "let x = a in !t(x)", True, False),
            ("t(?h) = let x = b in ?h", "let x = a in !t(x)", True, True),
            ("t(?h) = each x of a: ?h", "each x of a: !t(x)", True, True),
            ("t(?h) = let x = y in ?h", "each x of a: each y of a: !t(x)", True, True),
            ("t(?h) = let y = c() in let x = y in ?h", "let x = c() in !t(x)", True, False),
            ("t($n) = let x = a in $n", "!t(x)", True, True), ("t($n) = let x = $n in $n", "!t(x)", True, False),
            ("", "let x = x in each x of x: x", False, False),
        ]:
            book, program = read_book(book), read_term(program)
            self.assertIs(catches(book, program) != [], caught)
            self.assertIs(seen(book, program), found, (book_text(book), program))

    def test_programs_by_chance(self):
        hidden = shown = 0
        for seed in range(1500):
            book, program = book_and_program(seed)
            try:
                caught = catches(book, program)
            except TooLarge:
                continue
            found = seen(book, program)
            self.assertIs(found, value_rows(expand(book, program)) != value_rows(apart(book, program)))
            hidden += bool(caught) and not found
            shown += found
        self.assertGreater(min(hidden, shown), 20)

    def test_values_too_large_to_be_listed(self):
        inner = "!t(f(x, y))"
        for letter in "abcdefghijklmnopqr":
            inner = f"each x{letter} of a: let z = f({inner}, x{letter}) in g(z, each y of b: z)"
        program = read_term(inner)
        self.assertIs(seen(read_book("t(?h) = let x = a in ?h"), program), True)
        self.assertIs(seen(read_book("t(?h) = let x = x in ?h"), program), False)

    def test_errors(self):
        self.check_book_and_program(seen)
        self.check_room(seen)


class EverSeen(Checks):
    def check_seen(self, book, name):
        """Check what is told, and return True if a catch is seen."""
        found, template = ever_seen(book, name), book[name]
        if found is None:
            return False
        self.assertIsInstance(found, tuple)
        names, fillings, site = found
        self.assertEqual([set(names), set(fillings)], [set(template.choices()), set(template.holes())])
        self.assertTrue(all(is_term(filling) for filling in fillings.values()))
        self.assertIsInstance(site, tuple)
        self.assertLessEqual(len(site), 1)
        try:
            program = at_site(site, call_of(template, names, fillings))
            self.assertNotEqual(value_rows(expand(book, program)), value_rows(apart(book, program)), book_text(book))
        except (TooLarge, InvalidProgram):
            pass
        return True

    def test_examples_of_the_document(self):
        book = read_book(EXAMPLE)
        found = [ever_seen(book, "swap") is None, ever_seen(book, "idle"), some_catch(book, "idle") is None]
        self.assertEqual(found, [False, None, False])
        self.assertIsNotNone(ever_seen(read_book(BOTH), "both"))

    def test_templates(self):
        for text, found in [
            (EXAMPLE, False), (BOTH, True), ("t() = c()", False), ("t(?h) = ?h", False), ("t() = x", True),
            ("t(?h) = let x = c() in ?h", True), ("t(?h) = each x of c(): ?h", True),
            ("t(?h) = let x = x in ?h", False),
            ("t(?h) = let x = y in ?h", True), ("t(?h) = want x = c() in f(x, ?h)", False),
            ("s(?h) = want x = c() in ?h\nt(?h) = !s(?h)", True),
            # Parts that no value shows.
            ("t(?h) = let x = c() in let y = ?h in x", False), ("t(?h) = let x = c() in let y = ?h in y", True),
            ("t(?h) = let y = let x = c() in ?h in k()", False), ("t() = let y = x in c()", False),
            ("t() = let y = x in y", True),
            ("t(?h) = let x = c() in let y = f(?h) in ?h", True), ("t(?h, ?k) = let y = let x = c() in ?h in ?k", True),
            ("t(?h, ?k) = let y = let x = c() in ?h in f(y)", True),
            ("none(?h) = c()\nt(?h) = let x = c() in !none(?h)", False),
            # Only a site shows it.
            ("t(?h) = f(x, ?h)", True), ("t(?h) = let y = x in ?h", True), ("s() = x\nt() = g(!s())", True),
            # Only some choice shows it.
            ("t($n) = let $n = c() in $n", False), ("t($n) = let x = c() in $n", True),
            ("t($n) = let x = c() in f(x)", False),
            ("t($n) = let x = c() in let $n = d() in x", True), ("t($n) = let x = c() in let $n = d() in k()", False),
            ("t($n) = let x = c() in let $n = x in x", False), ("t($n) = let x = c() in let y = $n in x", False),
            ("t($n, $m) = let $n = c() in let x = d() in let $m = k() in $n", True),
            ("t($n, $m) = let y = c() in let $n = let $m = d() in x() in let y = k() in y", False),
            ("t($n, $m) = let x = c() in let y = k() in let $n = let $m = d() in x in y", True),
            ("t($n, $m) = let x = c() in let y = k() in let $n = let $m = d() in x in y()", False),
            ("t(?k, $n, ?h, ?m) = let $n = let a = $n in ?h in $n", True),
        ]:
            book = read_book(text)
            self.assertIs(self.check_seen(book, book.names()[-1]), found, text)

    def test_two_names_that_both_must_be_chosen(self):
        book = read_book("t($n, $m) = let x = c() in let y = k() in let $n = let $m = d() in x in y")
        names = ever_seen(book, "t")[0]
        self.assertEqual(names["n"], "y")
        book = read_book("t($n, $m) = let x = c() in let y = let $m = c() in x in let $n = let $m = d() in x in y")
        self.assertIs(self.check_seen(book, "t"), True)
        book = read_book("t($n, $m, ?h) = let y = c() in let $n = let $m = d() in let x = d() in c() in y")
        self.assertIs(self.check_seen(book, "t"), False)

    def test_templates_by_chance(self):
        never = 0
        for seed in range(400):
            book, program = book_and_program(seed, 6)
            for name in book.names():
                try:
                    found = self.check_seen(book, name)
                except TooLarge:
                    continue
                if some_catch(book, name) is None:
                    self.assertFalse(found)
                if not found:
                    self.check_never_seen(book, book[name], Chance(seed, "abxyq"))
                    never += some_catch(book, name) is not None
        self.assertGreater(never, 20)

    def check_never_seen(self, book, template, chance):
        """Check that other ways find no catch that is seen."""
        names = names_in_bodies(Book([book[name] for name in book.names()][:book.names().index(template.name) + 1]))
        for choice in every_choice(template, names):
            all_names = sorted({*names, *choice.values()})
            for site in [[]] + [[(name, ("op", "s", ()))] for name in all_names]:
                rows = [{hole: tree_of_names("q" + hole, all_names) for hole in template.holes()},
                        {hole: chance.body(5) for hole in template.holes()}]
                for fillings in rows:
                    try:
                        self.assertFalse(seen(book, at_site(site, call_of(template, choice, fillings))),
                            book_text(book))
                    except (TooLarge, InvalidProgram):
                        pass

    def test_values_that_are_large_only_with_other_fillings(self):
        inner = "?h"
        for letter in "abcdefghijkl":
            inner = f"each x{letter} of a(): let z = {inner} in g(z, each y of b(): z)"
        self.assertIs(self.check_seen(read_book(f"t(?h) = {inner}"), "t"), True)
        self.assertIs(self.check_seen(read_book(f"t(?h) = let w = {inner} in c()"), "t"), False)

    def test_fillings_that_make_the_programs_too_large(self):
        row = "f(f(?h, ?h, ?h), f(?h, ?h, ?h), f(?h, ?h, ?h))"
        many = f"g({row}, {row}, {row})"
        lets = "".join(f"let {name} = {name}() in " for name in "abdeghijklmnpqrstuvwxyz")
        self.assertIs(self.check_seen(read_book(f"t(?h) = f({many}, {lets}?h)"), "t"), True)

    def test_results_are_new(self):
        book = read_book("t(?h, $n) = let $n = x in let x = c() in f(?h, $n)")
        first = ever_seen(book, "t")
        kept = (dict(first[0]), dict(first[1]), first[2])
        first[0].clear()
        first[1].clear()
        self.assertEqual(ever_seen(book, "t"), kept)

    def test_books_and_names(self):
        book = read_book(EXAMPLE)
        for value in values_of_every_kind():
            if not isinstance(value, Book):
                self.check_raises(InvalidBook, "value", value, lambda: ever_seen(value, "swap"))
                self.check_raises(InvalidBook, "value", value, lambda: ever_seen(value, None))
            self.check_raises(UnknownTemplate, "name", value, lambda: ever_seen(book, value))

    def test_sizes_and_heights(self):
        for body, count in [
            (wide(400), None), (("call", "two", (wide(199),)), None), (("call", "two", (wide(200),)), 401),
            (chain(59), None), (chain(60), 61), (read_term("!u(" * 29 + "?h" + ")" * 29), None),
            (read_term("!u(" * 29 + "f(?h)" + ")" * 29), 61), (("op", "f", (wide(398), ("hole", "h"))), None),
        ]:
            book = Book([read_template("two(?h) = f(?h, ?h)"), read_template("u(?h) = f(?h)"),
                Template("t", ["?h"], body)])
            if count is None:
                ever_seen(book, "t")
            else:
                self.check_name(TooLarge, count, lambda: ever_seen(book, "t"))


if __name__ == "__main__":
    import unittest
    unittest.main()
