"""Tests of alike: promises 5, 7, 8, 9 and 92."""

from caughtnames import comparisons as module
from caughtnames.books import Book
from caughtnames.booktexts import book_text, read_book, read_template
from caughtnames.comparisons import alike
from caughtnames.errors import (
    CaughtError, InvalidBook, InvalidMode, InvalidProgram, TooLarge, UnknownTemplate, UnlikeParameters)
from caughtnames.expansion import expand
from caughtnames.scopes import alike_terms
from caughtnames.templates import Template
from caughtnames.terms import is_term
from caughtnames.termtexts import read_term
from caughtnames.values import value_rows
from caughtnames.verdicts import call_of
from chance import Chance
from checks import Checks
from references import every_choice, names_in_bodies, tree_of_names
from samples import chain, values_of_every_kind, wide

A = ("name", "a")
C = ("op", "c", ())
EXAMPLE = "one(?h) = let a = ?h in f(a, a)\ntwo(?h) = f(?h, ?h)\nlow(?h) = let b = ?h in f(b, ?h)"

# The first and the other template, if they are alike by scopes, and if by values.
CASES = [
    ("t() = c()", "u() = c()", True, True), ("t() = c()", "u() = d()", False, False),
    ("t() = a", "u() = b", False, False),
    ("t() = f(a)", "u() = g(a)", False, False), ("t() = f(a)", "u() = f(a, a)", False, False),
    ("t() = f(a, b)", "u() = f(b, a)", False, False),
    ("t() = a()", "u() = a", False, False), ("t() = let x = a in x", "u() = each x of a: x", False, False),
    # Names of binders alone, and what they are of.
    ("t() = let x = a in x", "u() = let y = a in y", True, True),
    ("t() = each x of a: x", "u() = each y of a: y", True, True),
    ("t() = let x = a in y", "u() = let y = a in y", False, False),
    ("t() = let x = x in x", "u() = let y = x in y", True, True),
    ("t() = let x = a in let x = b in x", "u() = let x = a in let y = b in y", True, True),
    ("t() = let x = a in let y = b in x", "u() = let x = a in let y = b in y", False, False),
    ("t() = want x = a in x", "u() = let x = a in x", True, True),
    ("t() = want x = a in x", "u() = want y = a in y", True, True),
    ("t(?h) = let x = a in ?h", "u(?h) = let y = a in ?h", False, False),
    ("t(?h) = let x = ?h in x", "u(?h) = let y = ?h in y", True, True),
    ("t(?h) = want x = a in ?h", "u(?h) = let x = a in ?h", True, True),
    ("t(?h) = each x of a: ?h", "u(?h) = each y of a: ?h", False, False),
    ("t(?h) = let x = a in let x = b in ?h", "u(?h) = let y = a in let x = b in ?h", False, False),
    ("t(?h) = let x = a in let y = b in ?h", "u(?h) = let y = a in let x = b in ?h", False, False),
    # Holes.
    ("t(?h, ?k) = f(?h, ?k)", "u(?h, ?k) = f(?k, ?h)", False, False), ("t(?h) = ?h", "u(?h) = c()", False, False),
    ("t(?h) = ?h", "u(?h) = f(?h)", False, False), ("t(?h) = f(?h, ?h)", "u(?h) = f(?h, c())", False, False),
    ("t(?h) = ?h", "u(?h) = a()", False, False), ("t(?h) = ?h", "u(?h) = b()", False, False),
    ("t(?h) = ?h", "u(?h) = h", False, False), ("t(?h) = let x = a in x", "u(?h) = let x = a in ?h", False, False),
    ("t(?h) = f(let x = a in ?h)", "u(?h) = f(let x = a in ?h)", True, True),
    # Lets and calls that are put in as text: only values do not tell them.
    ("t(?h) = let a = ?h in f(a, a)", "u(?h) = f(?h, ?h)", False, True),
    ("t() = let x = a in f(x)", "u() = f(a)", False, True),
    ("t(?h) = let b = ?h in f(b, ?h)", "u(?h) = f(?h, ?h)", False, False),
    ("t(?h) = let b = b in ?h", "u(?h) = ?h", False, True),
    ("t(?h) = let b = a in let a = b in let b = b in ?h", "u(?h) = let b = a in ?h", False, True),
    ("t(?h) = let x = ?h in let x = x in x", "u(?h) = ?h", False, True),
    ("t(?h) = let x = ?h in c()", "u(?h) = c()", False, True),
    ("t(?h) = let x = k() in each y of x: ?h", "u(?h) = each y of k(): let x = k() in ?h", False, True),
    ("t(?h) = each y of k(): let x = y in ?h", "u(?h) = each x of k(): let y = x in ?h", False, True),
    ("t(?h) = each x of k(): ?h", "u(?h) = each y of k(): let x = y in ?h", False, False),
    ("t(?h) = each x of k(): let y = x in ?h", "u(?h) = each y of k(): let x = y in ?h", False, True),
    ("t(?h) = each x of k(): each y of x: ?h", "u(?h) = each y of k(): each x of y: ?h", False, False),
    # Values that hang together through two holes, or twice through one.
    ("t(?a, ?b) = let t = let x = k() in ?a in ?b", "u(?a, ?b) = let t = let x = l() in ?a in ?b", False, False),
    ("t(?a) = let t = let x = k() in ?a in ?a", "u(?a) = let t = let x = l() in ?a in ?a", False, False),
    ("t(?a) = let x = let y = let z = let w = k() in ?a in ?a in ?a in ?a",
     "u(?a) = let x = let y = let z = let w = l() in ?a in ?a in ?a in ?a", False, False),
    ("t(?a, ?b) = let t = let x = k() in ?a in b()", "u(?a, ?b) = let t = let x = l() in ?a in b()", False, True),
    ("t(?a, ?b) = let x = ?a in ?b", "u(?a, ?b) = let x = ?a in let y = y in ?b", False, True),
    # Name parameters: for all choices, for one name for both, for a name that the body writes.
    ("t($n) = $n", "u($n) = n", False, False), ("t($n) = let $n = a in $n", "u($n) = let x = a in x", True, True),
    ("t($n) = let $n = a in b", "u($n) = let x = a in b", False, False),
    ("t($n) = let $n = c() in c()", "u($n) = let b = c() in c()", True, True),
    ("t($n, $m) = f($n, $m)", "u($n, $m) = f($m, $n)", False, False),
    ("t($n, $m) = let $n = a() in let $m = b() in $n", "u($n, $m) = let $n = a() in let x = b() in $n", False, False),
    ("t($n, $m) = let $n = a() in let $m = b() in $m", "u($n, $m) = let $m = a() in let $m = b() in $m", True, True),
    ("t($n, $m) = let $n = a() in $n", "u($n, $m) = let $m = a() in $m", True, True),
    ("t($n) = let $n = a() in x", "u($n) = let y = a() in x", False, False),
    ("t($n) = let x = a() in $n", "u($n) = let y = a() in $n", False, False),
    ("t($n) = let x = a() in let $n = b() in x", "u($n) = let x = a() in let y = b() in x", False, False),
    ("t($n, ?h) = let $n = a() in ?h", "u($n, ?h) = let n = a() in ?h", False, False),
    ("t($n, $m, ?h) = let $n = a() in let $m = b() in ?h", "u($n, $m, ?h) = let $m = b() in let $n = a() in ?h",
     False, False),
    ("t($n, $m, ?h) = let $n = k() in let $m = k() in ?h", "u($n, $m, ?h) = let $m = k() in let $n = k() in ?h",
     False, True),
    ("t($n, ?h) = let $n = a() in let x = b() in ?h", "u($n, ?h) = let x = b() in let $n = a() in ?h", False, False),
    ("t($n, ?h) = let $n = k() in let x = k() in ?h", "u($n, ?h) = let x = k() in let $n = k() in ?h", False, True),
    ("t($n, $m) = let $n = a() in let y = b() in $m", "u($n, $m) = let y = a() in let y = b() in $m", False, False),
    ("t($n, $m) = let $n = let $m = k() in x in y", "u($n, $m) = let $n = let $m = l() in x in y", False, False),
    ("t($n, $m) = let $n = let $m = k() in x in y()", "u($n, $m) = let $n = let $m = l() in x in y()", False, True),
    ("t($n, $m) = let $n = let $m = k() in $n in $m", "u($n, $m) = let $n = let $m = l() in $n in $m", False, False),
]


def book_with(one, other, *more):
    return Book([read_template(text) for text in more] + [read_template(one), read_template(other)])


class Interface(Checks):
    def test_signature(self):
        self.check_signatures(module, ["alike(book, one, other, *, by='scopes')"])

    def test_arguments_by_name(self):
        book = read_book(EXAMPLE)
        self.assertIsNone(alike(by="values", other="two", one="one", book=book))
        self.assertIsNotNone(alike(other="two", one="one", book=book))
        self.assertIsNotNone(alike(book, "one", "two", by="scopes"))


class Alike(Checks):
    def check_alike(self, book, one, other, by):
        """Check what is told, and return True if it is None."""
        found = alike(book, one, other, by=by)
        if found is None:
            return True
        self.assertIsInstance(found, tuple)
        names, fillings = found
        self.assertEqual([set(names), set(fillings)], [set(book[one].choices()), set(book[one].holes())])
        self.assertTrue(all(is_term(filling) for filling in fillings.values()))
        try:
            terms = [expand(book, call_of(book[name], names, fillings)) for name in (one, other)]
        except (TooLarge, InvalidProgram):
            return False
        if by == "scopes":
            self.assertFalse(alike_terms(*terms), book_text(book))
        else:
            self.assertNotEqual(value_rows(terms[0]), value_rows(terms[1]), book_text(book))
        return False

    def test_examples_of_the_document(self):
        book = read_book(EXAMPLE)
        found = [alike(book, "one", "two", by="values"), alike(book, "one", "two") is None,
                 alike(book, "low", "two", by="values") is None]
        self.assertEqual(found, [None, False, False])

    def test_cases(self):
        for one, other, by_scopes, by_values in CASES:
            book = book_with(one, other)
            for pair in (("t", "u"), ("u", "t")):
                self.assertIs(self.check_alike(book, *pair, "scopes"), by_scopes, (one, other))
                self.assertIs(self.check_alike(book, *pair, "values"), by_values, (one, other))

    def test_each_with_itself(self):
        for one, other, by_scopes, by_values in CASES:
            book = book_with(one, other)
            for name in ("t", "u"):
                self.assertEqual([alike(book, name, name), alike(book, name, name, by="values")], [None, None])

    def test_calls_that_are_put_in(self):
        for more, one, other, by_scopes, by_values in [
            ("s(?k) = f(?k, ?k)", "t(?h) = !s(?h)", "u(?h) = f(?h, ?h)", True, True),
            ("s(?k) = let x = ?k in f(x, x)", "t(?h) = !s(?h)", "u(?h) = f(?h, ?h)", False, True),
            ("s(?k) = let x = a in ?k", "t(?h) = !s(?h)", "u(?h) = let y = a in ?h", False, False),
            ("s(?k) = let x = a in ?k", "t(?h) = !s(?h)", "u(?h) = let x = a in ?h", True, True),
            ("s(?k) = want x = a in ?k", "t(?h) = !s(?h)", "u(?h) = let x = a in ?h", True, True),
            ("s($n) = let x = a in $n", "t($m) = !s($m)", "u($m) = let x = a in $m", True, True),
            ("s($n) = let x = a in $n", "t($m) = !s($m)", "u($m) = let y = a in $m", False, False),
            ("s($n) = let x = a in $n", "t($m) = !s(x)", "u($m) = a", False, True),
            ("s(?k) = c()", "t(?h) = !s(?h)", "u(?h) = c()", True, True),
        ]:
            book = book_with(one, other, more)
            for pair in (("t", "u"), ("u", "t")):
                self.assertIs(self.check_alike(book, *pair, "scopes"), by_scopes, (one, other))
                self.assertIs(self.check_alike(book, *pair, "values"), by_values, (one, other))

    def test_templates_by_chance(self):
        found = {"scopes": 0, "values": 0, "more": 0}
        for seed in range(700):
            chance = Chance(seed, "abx", wanted=True)
            pick = chance.random
            chance.parameters = ["?h", "?k"][:pick.choice([0, 1, 1, 2])] + ["$n", "$m"][:pick.choice([0, 0, 1, 2])]
            body = chance.body(pick.randrange(1, 9))
            other = changed(chance, body) if pick.random() < 0.5 else with_lets_put_in(pick, body)
            book = Book([Template("t", chance.parameters, body), Template("u", chance.parameters, other)])
            by_scopes = self.check_alike(book, "t", "u", "scopes")
            by_values = self.check_alike(book, "t", "u", "values")
            self.assertTrue(by_values or not by_scopes)
            self.assertEqual([by_scopes, by_values], [self.check_alike(book, "u", "t", by) for by in ("scopes",
                "values")])
            for by, is_alike in (("scopes", by_scopes), ("values", by_values)):
                found[by] += not is_alike
                if is_alike:
                    self.check_no_difference(book, by)
            found["more"] += by_values and not by_scopes
        self.assertGreater(min(found.values()), 40)

    def test_rows_of_binders_by_chance(self):
        found = {"scopes": 0, "values": 0}
        for seed in range(500):
            pick = Chance(seed).random
            leaf = ("op", "f", tuple(("name", pick.choice(["$n", "$m", "x", "y"])) for _ in range(pick.randrange(3))))
            holes = ["?h"][:pick.randrange(2)]
            leaf = (*leaf[:2], (*leaf[2], *[("hole", "h") for _ in holes]))
            bodies = [leaf, leaf]
            for _ in range(pick.randrange(1, 4)):
                first = pick.choice([("op", "k", ()), ("op", "k", ()), ("name", "x")])
                names = [pick.choice(["$n", "$m", "x", "y"]) for _ in range(2)]
                bodies = [("let", name, first, body) for name, body in zip(names, bodies)]
            book = Book([Template(name, [*holes, "$n", "$m"], body) for name, body in zip("tu", bodies)])
            for by in ("scopes", "values"):
                if self.check_alike(book, "t", "u", by):
                    found[by] += 1
                    self.check_no_difference(book, by)
        self.assertGreater(min(found.values()), 40)

    def check_no_difference(self, book, by):
        """Check that other ways find no difference."""
        template = book["t"]
        names = names_in_bodies(book)
        for choice in every_choice(template, names):
            all_names = sorted({*names, *choice.values()})
            rows = [{hole: tree_of_names("q" + hole, all_names) for hole in template.holes()}]
            rows += [{hole: ("name", name) for hole in template.holes()} for name in all_names]
            for fillings in rows:
                try:
                    one, other = [expand(book, call_of(book[name], choice, fillings)) for name in ("t", "u")]
                except TooLarge:
                    continue
                if by == "scopes":
                    self.assertTrue(alike_terms(one, other), book_text(book))
                else:
                    self.assertEqual(value_rows(one), value_rows(other), book_text(book))

    def test_results_are_new(self):
        book = read_book("t(?h, $n) = let $n = a in ?h\nu(?h, $n) = let x = a in ?h")
        for by in ("scopes", "values"):
            first = alike(book, "t", "u", by=by)
            kept = (dict(first[0]), dict(first[1]))
            first[0].clear()
            first[1].clear()
            self.assertEqual(alike(book, "t", "u", by=by), kept)


def changed(chance, part):
    """A part with some changes."""
    pick = chance.random
    if pick.random() < 0.12:
        if part[0] in ("let", "each"):
            return (part[0], chance.name_within(), *part[2:])
        return chance.leaf() if part[0] == "name" else ("let", chance.name_within(), chance.leaf(), part)
    if part[0] == "op":
        return (*part[:2], tuple(changed(chance, inner) for inner in part[2]))
    return (*part[:2], *[changed(chance, inner) for inner in part[2:]])


def with_lets_put_in(pick, part):
    """A part in which some lets are put in as text, whatever is caught then."""
    if part[0] == "op":
        return (*part[:2], tuple(with_lets_put_in(pick, inner) for inner in part[2]))
    if part[0] == "let" and pick.random() < 0.6:
        return with_lets_put_in(pick, put_in(part[3], part[1], part[2]))
    return (*part[:2], *[with_lets_put_in(pick, inner) if isinstance(inner, tuple) else inner for inner in part[2:]])


def put_in(part, name, value):
    """A part with a value in the place of the uses of a name."""
    if part == ("name", name):
        return value
    if part[0] == "op":
        return (*part[:2], tuple(put_in(inner, name, value) for inner in part[2]))
    if part[0] in ("let", "each", "want"):
        return (*part[:2], put_in(part[2], name, value), part[3] if part[1] == name else put_in(part[3], name, value))
    return part


class Large(Checks):
    def test_fillings_that_make_the_programs_too_large(self):
        row = "f(f(?h, ?h, ?h), f(?h, ?h, ?h), f(?h, ?h, ?h))"
        many = f"g({row}, {row}, {row})"
        lets = "".join(f"let {name} = {name}() in " for name in "abdeghijklmnpqrstuvwxyz")
        for one, other, by_values in [
            (f"t(?h) = f({many}, {lets}?h)", f"u(?h) = f({many}, {lets.replace('m()', 'k()')}?h)", False),
            (f"t(?h) = f({many}, {lets}?h)", f"u(?h) = f({many}, {lets}let o = o in ?h)", True),
        ]:
            book = book_with(one, other)
            for pair in (("t", "u"), ("u", "t")):
                found = alike(book, *pair, by="values")
                self.assertIs(found is None, by_values)
                if found is not None:
                    self.assertTrue(is_term(found[1]["h"]))
                    self.assertIn("m", str(found[1]["h"]))
                self.assertIsNotNone(alike(book, *pair))

    def test_many_names_around_holes(self):
        names = [first + second for first in "abcdefgh" for second in "bcdeghjk"]
        rows = ["".join(f"let {name} = {name}() in " for name in names[at::2]) + "?h" for at in range(2)]
        inner = "f(" + ", ".join(rows) + ")"
        book = Book([Template(name, ["?h"], read_term(text)) for name, text in [
            ("t", inner), ("u", f"let zz = k() in {inner.replace('bb() in', 'b() in')}"),
            ("v", f"let z = k() in {inner}")]])
        found = alike(book, "t", "u", by="values")
        self.assertTrue(is_term(found[1]["h"]))
        terms = [expand(book, call_of(book[name], *found)) for name in ("t", "u")]
        self.assertNotEqual(value_rows(terms[0]), value_rows(terms[1]))
        found = alike(book, "t", "v", by="values")
        terms = [expand(book, call_of(book[name], *found)) for name in ("t", "v")]
        self.assertNotEqual(value_rows(terms[0]), value_rows(terms[1]))

    def test_more_names_than_one_filling_can_use(self):
        letters = "abcdefghijklmnopqrstuvwxyz"
        bodies = []
        for first, last in [("q", "k()"), ("w", "l()")]:
            names = [first + one + two for one in letters[:7] for two in letters[:25]][:165]
            rows = ["".join(f"let {name} = {name} in " for name in names[at::3]) + "?h" for at in range(3)]
            bodies.append(read_term("let z = " + last + " in f(" + ", ".join(rows) + ")"))
        book = Book([Template(name, ["?h"], body) for name, body in zip("tu", bodies)])
        for pair in (("t", "u"), ("u", "t")):
            found = alike(book, *pair, by="values")
            self.assertTrue(is_term(found[1]["h"]))
            terms = [expand(book, call_of(book[name], *found)) for name in pair]
            self.assertNotEqual(value_rows(terms[0]), value_rows(terms[1]))

    def test_values_that_are_large_only_with_other_fillings(self):
        inner = "?h"
        for letter in "abcdefghijkl":
            inner = f"each x{letter} of a: let z = {inner} in g(z, each y of b: z)"
        other = inner.replace("xa", "xq").replace("xb", "xa").replace("xq", "xb")
        book = read_book(f"t(?h) = {inner}\nu(?h) = {other}\nv(?h) = let k = k in {inner}")
        self.assertIsNone(alike(book, "t", "v", by="values"))
        found = alike(book, "t", "u", by="values")
        self.assertIsNotNone(found)
        self.assertTrue(is_term(found[1]["h"]))

    def test_many_names_and_two_choices(self):
        names = ["a" + letter for letter in "abcdefghijklmnopqrs"]
        uses = "f(" + ", ".join("f(" + ", ".join(names[at:at + 3]) + ")" for at in (0, 3, 6)) + ")"
        book = read_book(f"t($n, $m) = each $n of a: each $m of b: {uses}\n"
                         f"u($n, $m) = let k = k() in each $n of a: each $m of b: {uses}\n"
                         f"v($n, $m) = let k = k() in each $m of a: each $n of b: {uses}")
        self.assertIsNone(alike(book, "t", "u", by="values"))
        self.assertIsNotNone(alike(book, "t", "u"))
        self.assertIsNotNone(alike(book, "t", "v", by="values"))


class Refusals(Checks):
    def test_refusals_in_their_order(self):
        book = read_book(
            "two(?h) = f(?h, ?h)\none(?h) = ?h\nmany(?h) = " + "!two(" * 9 + "?h" + ")" * 9
            + "\nmore(?h) = f(!many(?h))\nlast(?k) = ?k")
        good = (book, "one", "two", "scopes")
        self.assertIsNotNone(alike(*good[:3], by="values"))
        for row, error, field, at in [
            ((None, "gone", "gone", None), InvalidBook, "value", 0), ((book, "gone", "goner", None), UnknownTemplate,
             "name", 1),
            ((book, "one", "goner", None), UnknownTemplate, "name", 2),
            ((book, "one", "last", None), UnlikeParameters, "value", 2),
            ((book, "many", "last", "scopes"), UnlikeParameters, "value", 2),
            ((book, "one", "many", None), InvalidMode, "value", 3),
            ((book, "many", "more", "scope"), InvalidMode, "value", 3),
        ]:
            self.check_raises(error, field, row[at], lambda: alike(*row[:3], by=row[3]))
        for by in ("scopes", "values"):
            for one, other, count in [("many", "one", 1023), ("one", "many", 1023), ("many", "more", 1023),
                    ("more", "many", 1024),
                                      ("many", "many", 1023)]:
                self.check_name(TooLarge, count, lambda: alike(book, one, other, by=by))

    def test_books_names_and_modes(self):
        book = read_book(EXAMPLE)
        for value in values_of_every_kind():
            if not isinstance(value, Book):
                self.check_raises(InvalidBook, "value", value, lambda: alike(value, "one", "two"))
            self.check_raises(UnknownTemplate, "name", value, lambda: alike(book, value, "two"))
            self.check_raises(UnknownTemplate, "name", value, lambda: alike(book, "one", value))
            self.check_raises(InvalidMode, "value", value, lambda: alike(book, "one", "two", by=value))
        for value in ("Scopes", "value", "scopes ", ["scopes"], ("values",)):
            self.check_raises(InvalidMode, "value", value, lambda: alike(book, "one", "one", by=value))

    def test_parameters_are_compared_in_order(self):
        for one, other in [("(?h)", "(?k)"), ("(?h)", "()"), ("(?h, ?k)", "(?k, ?h)"), ("(?n)", "($n)"),
                ("(?h, $n)", "($n, ?h)")]:
            book = read_book(f"t{one} = c()\nu{other} = c()")
            name = "u"
            self.check_raises(UnlikeParameters, "value", name, lambda: alike(book, "t", name))

    def test_sizes_and_heights(self):
        for body, count in [
            (wide(400), None), (("call", "two", (wide(199),)), None), (("call", "two", (wide(200),)), 401),
            (chain(59), None), (chain(60), 61), (read_term("!u(" * 29 + "?h" + ")" * 29), None),
            (read_term("!u(" * 29 + "f(?h)" + ")" * 29), 61),
        ]:
            book = Book([read_template("two(?h) = f(?h, ?h)"), read_template("u(?h) = f(?h)"),
                read_template("s(?h) = ?h"),
                         Template("t", ["?h"], body)])
            for pair in (("t", "t"), ("t", "s"), ("s", "t")):
                for by in ("scopes", "values"):
                    if count is None:
                        alike(book, *pair, by=by)
                    else:
                        self.check_name(TooLarge, count, lambda: alike(book, *pair, by=by))
        self.assertTrue(issubclass(TooLarge, CaughtError))


if __name__ == "__main__":
    import unittest
    unittest.main()
