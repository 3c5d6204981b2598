"""Tests of call_of, at_site, is_clean, some_catch and shield: promises 2, 4, 7, 8, 9, 81, 82 and 83."""

from caughtnames import verdicts as module
from caughtnames.books import Book
from caughtnames.booktexts import book_text, read_book, read_template
from caughtnames.catches import catches
from caughtnames.errors import (
    InvalidBook, InvalidChoice, InvalidFillings, InvalidProgram, InvalidSite, InvalidTemplate, TooLarge,
    UnknownTemplate)
from caughtnames.scopes import free_names
from caughtnames.tables import table_of
from caughtnames.templates import Template
from caughtnames.terms import is_program, is_term, size
from caughtnames.termtexts import read_term, term_text
from caughtnames.verdicts import at_site, call_of, is_clean, shield, some_catch
from chance import Chance, book_and_program
from checks import Checks
from samples import chain, values_of_every_kind, wide

A = ("name", "a")
C = ("op", "c", ())
SWAP = "swap(?a, ?b) = let t = ?a in pair(?b, t)"
MIX = "mix(?a, $n, ?n, $a) = let $n = ?a in let $a = ?n in f($n, $a)"
# The first template has every kind of rows, the last one is too large for a table.
LARGE = "t(?h, $n) = let $n = x in f(?h, $n)\ntwo(?h) = f(?h, ?h)\nmany(?h, $n) = " + "!two(" * 9 + "?h" + ")" * 9


def fillings(**texts):
    return {hole: read_term(text) for hole, text in texts.items()}


class Interface(Checks):
    def test_signatures(self):
        self.check_signatures(module, [
            "call_of(template, names, fillings)", "at_site(site, program)",
            "is_clean(book, name, names, fillings, *, site=())", "some_catch(book, name)", "shield(book, name)"])

    def test_arguments_by_name(self):
        book = read_book(SWAP)
        given = fillings(a="x", b="t")
        self.assertEqual(call_of(fillings=given, names={}, template=book["swap"]), read_term("!swap(x, t)"))
        self.assertEqual(at_site(program=A, site=[("x", C)]), read_term("let x = c() in a"))
        self.assertIs(is_clean(site=[], fillings=given, names={}, name="swap", book=book), False)
        self.assertIsInstance(some_catch(name="swap", book=book), tuple)
        self.assertEqual(shield(name="swap", book=book), {"a": [], "b": ["t"], "": []})


class CallOf(Checks):
    def test_calls(self):
        for text, names, given, call in [
            (SWAP, {}, {"a": "x", "b": "f(x, let y = x in y)"}, "!swap(x, f(x, let y = x in y))"),
            ("t() = c()", {}, {}, "!t()"),
            (MIX, {"n": "x", "a": "y"}, {"a": "a()", "n": "n()"}, "!mix(a(), x, n(), y)"),
            ("t($m, $n) = $m", {"m": "x", "n": "x"}, {}, "!t(x, x)"), ("t($m, $n) = $m", {"n": "b", "m": "a"}, {},
             "!t(a, b)"),
        ]:
            template = read_template(text)
            for order in (1, -1):
                ordered = dict(list(fillings(**given).items())[::order])
                chosen = dict(list(names.items())[::order])
                self.assertEqual(term_text(call_of(template, chosen, ordered)), call)

    def test_calls_too_large_to_be_programs(self):
        call = call_of(read_template(SWAP), {}, {"a": wide(400), "b": chain(60)})
        self.assertEqual(call, ("call", "swap", (wide(400), chain(60))))
        self.assertFalse(is_program(call))

    def test_values_that_are_no_templates(self):
        for value in values_of_every_kind() + [read_book(SWAP)]:
            if not isinstance(value, Template):
                self.check_raises(InvalidTemplate, "value", value, lambda: call_of(value, None, None))

    def test_values_that_are_no_choices(self):
        template = read_template(MIX)
        for value in values_of_every_kind() + [
            {"n": "x"}, {"n": "x", "a": "let"}, {"n": "x", "a": "y", "b": "z"}, {"$n": "x", "$a": "y"},
            {"n": "x", "a": True},
        ]:
            self.check_raises(InvalidChoice, "value", value, lambda: call_of(template, value, None))
        for value in [{1: "x"}, {"a": "x"}, {"": "x"}, None, []]:
            self.check_raises(InvalidChoice, "value", value, lambda: call_of(read_template(SWAP), value, None))

    def test_values_that_are_no_fillings(self):
        template = read_template(SWAP)
        for value in values_of_every_kind() + [
            {"a": A}, {"a": A, "b": A, "c": A}, {"?a": A, "?b": A}, {"a": A, "b": "x"}, {"a": A, "b": ("hole", "h")},
            {"a": A, "b": ("call", "swap", (A, A))}, {"a": A, "b": ("want", "x", A, A)}, {"a": A, "b": ("name", "$n")},
            {"a": A, "b": wide(401)}, {"a": chain(61), "b": A}, {"a": A, 1: A}, {"a": ["name", "a"], "b": A},
        ]:
            self.check_raises(InvalidFillings, "value", value, lambda: call_of(template, {}, value))
        for value in values_of_every_kind():
            if value != {}:
                self.check_raises(InvalidFillings, "value", value, lambda: call_of(read_template("t() = a"), {}, value))


class AtSite(Checks):
    def test_sites(self):
        for site, text in [
            ([], "a"), ([("x", C)], "let x = c() in a"), ([("x", A), ("y", C)], "let x = a in let y = c() in a"),
            ([("x", A), ("x", ("name", "x"))], "let x = a in let x = x in a"),
            ([(name, C) for name in "abcdefgh"], "".join(f"let {name} = c() in " for name in "abcdefgh") + "a"),
        ]:
            for given in (site, tuple(site)):
                self.assertEqual(term_text(at_site(given, A)), text)
        self.assertEqual(term_text(at_site([("x", C)], read_term("!t(x)"))), "let x = c() in !t(x)")

    def test_results_too_large_to_be_programs(self):
        self.assertEqual(at_site([("x", wide(400))], A), ("let", "x", wide(400), A))
        self.assertFalse(is_program(at_site([("x", A)], chain(60))))

    def test_values_that_are_no_sites(self):
        for site in values_of_every_kind() + [
            [(name, C) for name in "abcdefghi"], [["x", C]], [("x", C, C)], [("x",)], [("let", C)], [("$x", C)],
            [("x", ("call", "t", ()))], [("x", ["name", "a"])], [("x", C), None], ("x", C), {"x": C}, [(1, C)], "xy",
            [("x", wide(401))], [("x", chain(61))], [("x", ("hole", "h"))],
        ]:
            if site not in ([], ()):
                self.check_raises(InvalidSite, "value", site, lambda: at_site(site, A))
                self.check_raises(InvalidSite, "value", site, lambda: at_site(site, None))

    def test_values_that_are_no_programs(self):
        for program in [None, ("hole", "h"), ("want", "x", A, A), ["name", "a"], chain(61), wide(401), ("name", "$n")]:
            self.check_raises(InvalidProgram, "value", program, lambda: at_site([("x", C)], program))

    def test_sites_are_not_changed(self):
        site = [("x", A), ("y", C)]
        at_site(site, A)
        self.assertEqual(site, [("x", A), ("y", C)])


class IsClean(Checks):
    def test_examples_of_the_document(self):
        book = read_book(SWAP)
        found = [is_clean(book, "swap", {}, fillings(a=a, b=b)) for a, b in [("t", "u"), ("u", "t")]]
        self.assertEqual(found, [True, False])

    def test_calls(self):
        for text, names, given, site, found in [
            ("t(?h) = let x = a in ?h", {}, {"h": "x"}, [], False), ("t(?h) = let x = a in ?h", {},
             {"h": "let x = y in x"}, [], True),
            ("t(?h) = let x = a in ?h", {}, {"h": "let x = x in x"}, [], False),
            ("t(?h) = let x = a in ?h", {}, {"h": "f(y, let y = x in x)"}, [], False),
            ("t(?h) = let x = a in ?h", {}, {"h": "c()"}, [("a", C)], False),
            ("t(?h) = let x = a in ?h", {}, {"h": "c()"}, [("b", A), ("x", A), ("b", A)], True),
            ("t(?h) = let x = a in ?h", {}, {"h": "c()"}, [("b", C), ("a", C), ("b", C)], False),
            ("t(?h, $n) = let $n = a in ?h", {"n": "x"}, {"h": "x"}, [], True),
            ("t($n) = let $n = a in x", {"n": "x"}, {}, [], False), ("t($n) = let $n = a in x", {"n": "y"}, {}, [],
             True),
            ("t(?h, $n) = let x = a in let $n = b in ?h", {"n": "x"}, {"h": "x"}, [], True),
            ("t(?h, $n) = let x = a in let $n = b in ?h", {"n": "y"}, {"h": "x"}, [], False),
            ("t(?h) = want it = a in ?h", {}, {"h": "it"}, [], True), ("t() = c()", {}, {},
             [(n, A) for n in "abcdefgh"], True),
        ]:
            book = read_book(text)
            self.assertIs(is_clean(book, "t", names, fillings(**given), site=site), found, (text, names, given, site))
            self.assertIs(is_clean(book, "t", names, fillings(**given), site=tuple(site)), found)
            program = at_site(site, call_of(book["t"], names, fillings(**given)))
            self.assertIs(catches(book, program) == [], found)

    def test_calls_by_chance(self):
        clean = caught = 0
        for seed in range(500):
            book, program = book_and_program(seed)
            chance = Chance(seed, "abxyq")
            for name in book.names():
                template = book[name]
                for _ in range(3):
                    names = {choice: chance.name() for choice in template.choices()}
                    given = {hole: chance.body(chance.random.randrange(1, 7)) for hole in template.holes()}
                    site = [(chance.name(), chance.body(2)) for _ in range(chance.random.choice([0, 0, 1, 2]))]
                    try:
                        found = catches(book, at_site(site, call_of(template, names, given)))
                    except TooLarge:
                        continue
                    self.assertIs(is_clean(book, name, names, given, site=site), found == [], book_text(book))
                    clean, caught = clean + (found == []), caught + (found != [])
        self.assertGreater(min(clean, caught), 500)

    def test_programs_too_large_to_be_expanded(self):
        book = read_book("t(?h) = let x = a in f(?h, ?h)")
        for name, found in [("x", False), ("y", True)]:
            given = {"h": ("op", "f", (wide(398), ("name", name)))}
            self.assertIs(is_clean(book, "t", {}, given), found)
            self.assertIs(is_clean(book, "t", {}, {"h": ("op", "f", (chain(59), ("name", name)))}), found)
            self.assertIs(is_clean(book, "t", {}, {"h": C}, site=[("y", wide(400)),
                ("a" if name == "x" else "b", wide(400))]), found)

    def test_refusals_in_their_order(self):
        book = read_book(LARGE)
        good = (book, "t", {"n": "x"}, {"h": A}, [])
        bad = (None, "gone", {"n": "let"}, {"h": None}, None)
        errors = [(InvalidBook, "value"), (UnknownTemplate, "name"), (InvalidChoice, "value"),
            (InvalidFillings, "value"),
                  (InvalidSite, "value")]
        for at, (error, field) in enumerate(errors):
            for until in range(at, 5):
                row = [*good[:at], *bad[at:until + 1], *good[until + 1:]]
                self.check_raises(error, field, row[at], lambda: is_clean(*row[:4], site=row[4]))

    def test_wrong_books_names_and_values(self):
        book = read_book(LARGE)
        for value in values_of_every_kind():
            if not isinstance(value, Book):
                self.check_raises(InvalidBook, "value", value, lambda: is_clean(value, "t", {"n": "x"}, {"h": A}))
            if value != "t":
                self.check_raises(UnknownTemplate, "name", value, lambda: is_clean(book, value, {"n": "x"}, {"h": A}))
            self.check_raises(InvalidChoice, "value", value, lambda: is_clean(book, "t", value, {"h": A}))
            self.check_raises(InvalidFillings, "value", value, lambda: is_clean(book, "t", {"n": "x"}, value))
            if value not in ([], ()):
                self.check_raises(InvalidSite, "value", value, lambda: is_clean(book, "t", {"n": "x"}, {"h": A},
                    site=value))

    def test_too_large_comes_last(self):
        book = read_book(LARGE)
        self.check_name(TooLarge, 1023, lambda: is_clean(book, "many", {"n": "x"}, {"h": A}))
        self.check_raises(InvalidSite, "value", None, lambda: is_clean(book, "many", {"n": "x"}, {"h": A}, site=None))
        self.check_raises(InvalidFillings, "value", None, lambda: is_clean(book, "many", {"n": "x"}, None))
        self.check_raises(InvalidChoice, "value", None, lambda: is_clean(book, "many", None, None))
        book = read_book("u(?h) = f(?h)\nt(?h) = " + "!u(" * 30 + "?h" + ")" * 30)
        self.check_name(TooLarge, 61, lambda: is_clean(book, "t", {}, {"h": A}))


class SomeCatch(Checks):
    def check_catch(self, book, name):
        """Check what is told, and return True if it is a catch."""
        found, template = some_catch(book, name), book[name]
        if found is None:
            return False
        self.assertIsInstance(found, tuple)
        names, given, site = found
        self.assertEqual([names.__class__, given.__class__, site.__class__], [dict, dict, tuple])
        for filling in given.values():
            self.assertTrue(filling == C or filling[0] == "name" and is_term(filling))
        self.assertLessEqual(len(site), 1)
        for item in site:
            self.assertEqual([item.__class__, item[1]], [tuple, C])
        self.assertFalse(is_clean(book, name, names, given, site=site))
        self.assertNotEqual(catches(book, at_site(site, call_of(template, names, given))), [])
        return True

    def test_templates(self):
        for text, found in [
            (SWAP, True), ("t() = c()", False), ("t(?h) = ?h", False), ("t(?h) = f(let x = ?h in x, ?h)", False),
            ("t() = x", True), ("t() = let x = c() in x", False), ("t(?h) = let x = c() in ?h", True),
            ("t(?h) = want it = c() in f(it, ?h)", False), ("s(?h) = want it = c() in ?h\nt(?h) = !s(?h)", True),
            ("t($n) = $n", False), ("t($n) = let $n = c() in $n", False), ("t($n) = let x = c() in $n", True),
            ("t($n) = let x = c() in let $n = x in f($n, c())", False),
            ("t($n) = let x = c() in let $n = x in f($n, x)", True),
            ("t($n, $m) = let $n = c() in let $m = c() in f($n, $m)", False),
            ("t($n, $m) = let $n = c() in let x = c() in let $m = c() in $n", True),
            ("t($n) = want x = c() in $n", False), ("t($n) = let x = c() in want x = c() in $n", False),
            ("t($n, ?h) = let $n = c() in ?h", False), ("t(?h, $n) = let x = c() in let $n = c() in ?h", True),
            ("s(?h, $n) = let $n = c() in f($n, ?h)\nt(?h) = !s(?h, x)", True),
            ("s(?h, $n) = let $n = c() in f($n, ?h)\nt(?h, $m) = !s(f(?h, $m), $m)", False),
            ("s() = x\nt() = let x = c() in !s()", True), ("s() = let x = c() in x\nt() = let x = c() in f(x, !s())",
             False),
        ]:
            book = read_book(text)
            self.assertIs(self.check_catch(book, book.names()[-1]), found, text)

    def test_templates_by_chance(self):
        clean = 0
        for seed in range(500):
            book, program = book_and_program(seed, 6)
            chance = Chance(seed, "abxyq")
            for name in book.names():
                template = book[name]
                try:
                    found = self.check_catch(book, name)
                except TooLarge:
                    continue
                clean += not found
                for _ in range(0 if found else 5):
                    names = {choice: chance.name() for choice in template.choices()}
                    given = {hole: chance.body(5) for hole in template.holes()}
                    site = [(chance.name(), C), (chance.name(), C)]
                    self.assertTrue(is_clean(book, name, names, given, site=site))
        self.assertGreater(clean, 100)

    def test_results_are_new(self):
        book = read_book("t(?h, $n) = let $n = x in ?h")
        first = some_catch(book, "t")
        kept = (dict(first[0]), dict(first[1]), first[2])
        first[0].clear()
        first[1].clear()
        self.assertEqual(some_catch(book, "t"), kept)


class Shield(Checks):
    def test_templates(self):
        for text, found in [
            (SWAP, {"a": [], "b": ["t"], "": []}), ("t() = c()", {"": []}), ("t() = f(z, b, c())", {"": ["b", "z"]}),
            ("t(?h, ?k) = let z = x in let b = z in f(?h, ?h)", {"h": ["b", "z"], "k": [], "": ["x"]}),
            ("t(?h, $n) = let x = a in let $n = b in ?h", {"h": ["x"], "": ["a", "b"]}),
            ("t($n) = let $n = c() in x", {"": ["x"]}), ("t(?h) = want it = it in ?h", {"h": [], "": ["it"]}),
            ("t(?h, $n) = let x = c() in let $n = c() in f(?h, $n)", {"h": ["x"], "": []}),
            ("s(?h, $n) = let $n = c() in ?h\nt(?h, $m) = !s(!s(?h, $m), x)", {"h": ["x"], "": []}),
            ("t(?n, $n) = let n = c() in let $n = n in ?n", {"n": ["n"], "": []}),
        ]:
            book = read_book(text)
            self.assertEqual(shield(book, book.names()[-1]), found)

    def test_a_choice_that_breaks_a_row_counts(self):
        book = read_book("t(?h, $n) = f(let x = c() in f(?h, let $n = c() in x), let y = c() in ?h)")
        self.assertEqual(table_of(book, "t").broken({"n": "x"}), [1])
        self.assertEqual(shield(book, "t"), {"h": ["x", "y"], "": []})

    def test_templates_by_chance(self):
        checked = 0
        for seed in range(300):
            book, program = book_and_program(seed, 12)
            for name in book.names():
                template = book[name]
                try:
                    table, found = table_of(book, name), shield(book, name)
                except TooLarge:
                    continue
                self.assertEqual(set(found), {*template.holes(), ""})
                barred = {hole: set() for hole in found}
                for first in "abxyq":
                    for second in "abxyqr":
                        names = dict(zip(template.choices(), [first, second]))
                        for hole in template.holes():
                            barred[hole] |= set(table.barred(hole, names))
                        barred[""] |= set(table.site_barred(names))
                self.assertEqual(found, {hole: sorted(barred[hole]) for hole in barred}, book_text(book))
                checked += 1
        self.assertGreater(checked, 500)

    def test_fillings_and_sites_without_these_names_are_clean(self):
        checked = 0
        for seed in range(300):
            book, program = book_and_program(seed, 8)
            chance = Chance(seed, "abxyqr")
            for name in book.names():
                try:
                    table, found = table_of(book, name), shield(book, name)
                except TooLarge:
                    continue
                names = {choice: chance.name() for choice in book[name].choices()}
                given = {hole: chance.body(4) for hole in book[name].holes()}
                site = [(chance.name(), C)]
                kept = [not set(free_names(given[hole])) & set(found[hole]) for hole in given] + [site[0][0] not in found[""]]
                if all(kept) and not table.broken(names):
                    self.assertTrue(is_clean(book, name, names, given, site=site))
                    checked += 1
        self.assertGreater(checked, 100)

    def test_results_are_new(self):
        book = read_book(SWAP)
        first = shield(book, "swap")
        first["b"].append("more")
        first["q"] = []
        self.assertEqual(shield(book, "swap"), {"a": [], "b": ["t"], "": []})


class Refusals(Checks):
    def test_books_and_names(self):
        book = read_book(LARGE)
        for function in (some_catch, shield):
            for value in values_of_every_kind():
                if not isinstance(value, Book):
                    self.check_raises(InvalidBook, "value", value, lambda: function(value, "t"))
                    self.check_raises(InvalidBook, "value", value, lambda: function(value, None))
                if value != "t":
                    self.check_raises(UnknownTemplate, "name", value, lambda: function(book, value))
            self.check_name(TooLarge, 1023, lambda: function(book, "many"))

    def test_sizes_and_heights(self):
        two, u = read_template("two(?h) = f(?h, ?h)"), read_template("u(?h) = f(?h)")
        for function in (some_catch, shield, lambda book, name: is_clean(book, name, {}, {"h": C})):
            for body, count in [
                (("call", "two", (wide(199),)), None), (("call", "two", (wide(200),)), 401),
                (read_term("!u(" * 29 + "f(?h)" + ")" * 29), None), (read_term("!u(" * 30 + "?h" + ")" * 30), 61),
            ]:
                book = Book([two, u, Template("t", ["?h"], body)])
                if count is None:
                    function(book, "t")
                else:
                    self.check_name(TooLarge, count, lambda: function(book, "t"))
        self.assertEqual(size(wide(199)), 199)


if __name__ == "__main__":
    import unittest
    unittest.main()
