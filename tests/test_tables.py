"""Tests of table_of, table_from and Table: promises 2, 3, 5, 7, 8, 9, 71 and 72."""

from caughtnames import tables as module
from caughtnames.books import Book
from caughtnames.booktexts import book_text, read_book, read_template
from caughtnames.errors import (
    CaughtError, InvalidBook, InvalidCall, InvalidTables, InvalidTemplate, TooLarge, UnknownTemplate)
from caughtnames.tables import Table, table_from, table_of
from caughtnames.templates import Template
from caughtnames.terms import calls
from caughtnames.termtexts import read_term
from chance import book_and_program
from checks import Checks
from references import table_rows
from samples import chain, values_of_every_kind, wide

A = ("name", "a")
SWAP = "swap(?a, ?b) = let t = ?a in pair(?b, t)"
LOOP = "loop($m, ?h) = each $m of all: f($m, ?h, k)"


def own(*names):
    return tuple(("own", name) for name in names)


def wanted(*names):
    return tuple(("wanted", name) for name in names)


def given(*names):
    return tuple(("given", name) for name in names)


# The text of a book, and the rows of the table of its last template.
CASES = [
    (SWAP, [("hole", "a", (), None), ("hole", "b", own("t"), None), ("use", "t", own("t"), 0)]),
    (LOOP, [("use", "all", (), None), ("choice", "m", given("m"), None), ("hole", "h", given("m"), None),
            ("use", "k", given("m"), None)]),
    ("t() = c()", []),
    ("t(?h, $n) = f(c(), let x = c() in c())", []),
    ("t(?h) = ?h", [("hole", "h", (), None)]),
    ("t(?h, ?k) = f(?k, ?h, ?k)", [("hole", "k", (), None), ("hole", "h", (), None), ("hole", "k", (), None)]),
    ("t($n) = $n", [("choice", "n", (), None)]),
    ("t($n) = let $n = $n in n", [("choice", "n", (), None), ("use", "n", given("n"), None)]),
    ("t() = let x = x in let x = x in x",
     [("use", "x", (), None), ("use", "x", own("x"), 0), ("use", "x", own("x", "x"), 1)]),
    ("t($n) = let x = a in each $n of b: let y = c() in f(x, y, z)",
     [("use", "a", (), None), ("use", "b", own("x"), None), ("use", "x", own("x") + given("n") + own("y"), 0),
      ("use", "y", own("x") + given("n") + own("y"), 2), ("use", "z", own("x") + given("n") + own("y"), None)]),
    ("t(?h) = want it = it in f(it, ?h)",
     [("use", "it", (), None), ("use", "it", wanted("it"), 0), ("hole", "h", wanted("it"), None)]),
    ("t(?h) = let it = a in want it = b in let it = d in f(it, ?h)",
     [("use", "a", (), None), ("use", "b", own("it"), None), ("use", "d", own("it") + wanted("it"), None),
      ("use", "it", own("it") + wanted("it") + own("it"), 2),
      ("hole", "h", own("it") + wanted("it") + own("it"), None)]),
    # Calls: what their templates write, what is passed, and in which order it stands.
    (SWAP + "\nt(?h) = !swap(x, ?h)",
     [("use", "x", (), None), ("hole", "h", own("t"), None), ("use", "t", own("t"), 0)]),
    (SWAP + "\nt(?h) = let t = b in !swap(t, t)",
     [("use", "b", (), None), ("use", "t", own("t"), 0), ("use", "t", own("t", "t"), 0),
      ("use", "t", own("t", "t"), 1)]),
    (LOOP + "\nt(?h) = !loop(x, f(x, ?h))",
     [("use", "all", (), None), ("use", "x", own("x"), 0), ("use", "x", own("x"), 0), ("hole", "h", own("x"), None),
      ("use", "k", own("x"), None)]),
    (LOOP + "\nt($n, ?h) = !loop($n, f($n, n, ?h))",
     [("use", "all", (), None), ("choice", "n", given("n"), None), ("choice", "n", given("n"), None),
      ("use", "n", given("n"), None), ("hole", "h", given("n"), None), ("use", "k", given("n"), None)]),
    (LOOP + "\nt() = let k = all in !loop(k, k)",
     [("use", "all", (), None), ("use", "all", own("k"), None), ("use", "k", own("k", "k"), 1),
      ("use", "k", own("k", "k"), 1), ("use", "k", own("k", "k"), None)]),
    ("s(?k) = want it = a in ?k\nt(?h) = !s(f(it, ?h))",
     [("use", "a", (), None), ("use", "it", own("it"), 0), ("hole", "h", own("it"), None)]),
    ("s(?k) = want it = a in ?k\nr(?k) = !s(f(it, ?k))\nt(?h) = !r(f(it, ?h))",
     [("use", "a", (), None), ("use", "it", own("it"), 0), ("use", "it", own("it"), None),
      ("hole", "h", own("it"), None)]),
    ("s(?k) = let x = a in ?k\nt(?h) = !s(want it = x in f(it, ?h))",
     [("use", "a", (), None), ("use", "x", own("x"), None), ("use", "it", own("x") + wanted("it"), 1),
      ("hole", "h", own("x") + wanted("it"), None)]),
    ("s($n) = want x = a in $n\nt() = !s(x)", [("use", "a", (), None), ("use", "x", own("x"), 0)]),
    ("s($n) = want x = a in $n\nt($m) = !s($m)", [("use", "a", (), None), ("choice", "m", own("x"), None)]),
    ("s($n, $m) = let $n = $m in let $m = $n in m\nt($k) = !s($k, $k)",
     [("choice", "k", (), None), ("choice", "k", given("k"), None), ("use", "m", given("k", "k"), None)]),
    ("s($n, $m) = let $n = $m in $n\nt($n, $m) = !s($m, $n)",
     [("choice", "n", (), None), ("choice", "m", given("m"), None)]),
    # A hole that is put nowhere, once and several times.
    ("none(?h) = c()\nt(?h) = !none(f(x, ?h))", []),
    ("none(?h) = c()\nt(?h) = f(!none(?h), ?h)", [("hole", "h", (), None)]),
    ("two(?k) = f(?k, let x = a in ?k)\nt(?h) = !two(!two(?h))",
     [("hole", "h", (), None), ("use", "a", (), None), ("hole", "h", own("x"), None), ("use", "a", (), None),
      ("hole", "h", own("x"), None), ("use", "a", own("x"), None), ("hole", "h", own("x", "x"), None)]),
    ("s(?a, $a) = let $a = ?a in $a\nt(?a, $a) = !s(f(?a), $a)", [("hole", "a", (), None),
     ("choice", "a", given("a"), None)]),
    ("s(?a, $a) = let $a = ?a in $a\nt(?b) = !s(a, b)", [("use", "a", (), None), ("use", "b", own("b"), 0)]),
]


def tables_of(book):
    """The tables of the templates of a book, each made from those before it."""
    tables = {}
    for name in book.names():
        tables[name] = table_from(book[name], tables)
    return tables


class Interface(Checks):
    def test_signatures(self):
        self.check_signatures(module, ["table_of(book, name)", "table_from(template, tables)"])
        self.check_methods(Table, [
            "rows(self)", "barred(self, hole, names)", "foreign(self, hole, names)", "broken(self, names)",
            "site_barred(self, names)", "__eq__(self, other)"])
        self.assertEqual(Table.__module__, "caughtnames.tables")

    def test_arguments_by_name(self):
        book = read_book(LOOP)
        table = table_of(name="loop", book=book)
        self.assertEqual(table, table_from(tables={}, template=book["loop"]))
        self.assertEqual(table.barred(names={"m": "x"}, hole="h"), [])
        self.assertEqual(table.foreign(names={"m": "x"}, hole="h"), ["x"])
        self.assertEqual([table.broken(names={"m": "k"}), table.site_barred(names={"m": "x"})], [[3], ["all", "k"]])


class Rows(Checks):
    def test_cases(self):
        for text, rows in CASES:
            book = read_book(text)
            name = book.names()[-1]
            self.assertEqual(table_of(book, name).rows(), rows, text)
            self.assertEqual(tables_of(book)[name].rows(), rows, text)
            self.assertEqual(table_of(book, name).parameters, book[name].parameters)
            self.assertEqual(table_of(book, name), tables_of(book)[name])

    def test_numbers_are_integers(self):
        for text, rows in CASES:
            book = read_book(text)
            for table in (table_of(book, book.names()[-1]), tables_of(book)[book.names()[-1]]):
                self.assertIsInstance(table.parameters, tuple)
                for row in table.rows():
                    self.assertEqual([row.__class__, row[2].__class__], [tuple, tuple])
                    self.assertIn(row[3].__class__, (int, None.__class__))

    def test_books_by_chance(self):
        checked = 0
        for seed in range(600):
            book, program = book_and_program(seed, 10)
            for name in book.names():
                try:
                    table = table_of(book, name)
                except TooLarge:
                    continue
                self.assertEqual(table.rows(), table_rows(book, book[name]), book_text(book))
                checked += 1
        self.assertGreater(checked, 1000)

    def test_tables_follow_from_tables(self):
        checked = 0
        for seed in range(600, 1200):
            book, program = book_and_program(seed, 10)
            tables = {}
            for name in book.names():
                try:
                    tables[name] = table_from(book[name], tables)
                    table = table_of(book, name)
                except CaughtError:
                    continue
                except KeyError:
                    break
                self.assertEqual(tables[name].rows(), table.rows(), book_text(book))
                self.assertEqual(tables[name], table)
                checked += 1
        self.assertGreater(checked, 1000)

    def test_lists_are_new(self):
        table = table_of(read_book(LOOP), "loop")
        rows = table.rows()
        rows.clear()
        self.assertEqual(len(table.rows()), 4)
        self.assertIsNot(table.rows(), table.rows())


class Equality(Checks):
    def table(self, text):
        return table_from(read_template(text), {})

    def test_equal_tables_of_different_bodies(self):
        for one, other in [
            ("t() = f(a, b)", "u() = g(g(), a, b)"), ("t(?h) = let x = a in ?h", "u(?h) = each x of a: g(?h)"),
            ("t() = a", "t() = f(a)"), ("t(?h) = c()", "t(?h) = f(d(), c())"),
        ]:
            self.assertEqual(self.table(one), self.table(other))
            self.assertFalse(self.table(one) != self.table(other))

    def test_different_tables(self):
        for one, other in [
            ("t() = a", "t() = b"), ("t(?h) = c()", "t(?k) = c()"), ("t(?h) = c()", "t() = c()"),
            ("t(?h, ?k) = ?h", "t(?k, ?h) = ?h"), ("t(?h) = let x = a in ?h", "t(?h) = want x = a in ?h"),
            ("t(?h) = let x = a in ?h", "t(?h) = let y = a in ?h"), ("t() = f(a, b)", "t() = f(b, a)"),
            ("t() = f(a, a)", "t() = f(a)"), ("t($n) = $n", "t($n) = n"), ("t(?n) = ?n", "t(?n) = n"),
        ]:
            self.assertNotEqual(self.table(one), self.table(other))

    def test_other_values(self):
        table = self.table("t() = c()")
        for value in values_of_every_kind() + [table.rows(), read_template("t() = c()"), Table]:
            self.assertFalse(table == value)
            self.assertTrue(table != value)


class TableOf(Checks):
    def test_books_and_names(self):
        for book in values_of_every_kind():
            if not isinstance(book, Book):
                self.check_raises(InvalidBook, "value", book, lambda: table_of(book, "swap"))
                self.check_raises(InvalidBook, "value", book, lambda: table_of(book, None))
        book = read_book(SWAP)
        for name in values_of_every_kind() + ["swa", "swapp", "$swap", ["swap"]]:
            self.check_raises(UnknownTemplate, "name", name, lambda: table_of(book, name))

    def flat(self, body, more=""):
        return Book([read_template("u(?h) = f(?h)"), read_template("two(?h) = f(?h, ?h)"),
            Template("t", ["?h", "$n"], body)])

    def test_sizes_of_400_and_401(self):
        for body, too_large in [
            (wide(400), None), (("op", "f", (wide(398), ("hole", "h"))), None),
            (("call", "u", (wide(399),)), None), (("op", "f", (wide(200), ("call", "two", (wide(99),)))), None),
            (("op", "f", (wide(201), ("call", "two", (wide(99),)))), 401),
            (("call", "two", (wide(199),)), None), (("call", "two", (wide(200),)), 401),
            (("op", "f", (("call", "two", (("op", "f", (wide(197), ("hole", "h"))),)),)), None),
            (("op", "f", (("call", "two", (("op", "f", (wide(196), ("hole", "h"), ("name", "$n"))),)), wide(1))), 401),
        ]:
            if too_large is None:
                self.assertIsInstance(table_of(self.flat(body), "t"), Table)
            else:
                self.check_name(TooLarge, too_large, lambda: table_of(self.flat(body), "t"))

    def test_sizes_that_grow(self):
        book = read_book("ta(?h) = f(?h, ?h)\ntb(?h) = !ta(!ta(!ta(!ta(?h))))\ntc(?h) = !tb(!tb(?h))\ntd(?h) = !tc(!tc(?h))")
        self.assertEqual(len(table_of(book, "tb").rows()), 16)
        self.check_name(TooLarge, 511, lambda: table_of(book, "tc"))
        self.check_name(TooLarge, 2 ** 17 - 1, lambda: table_of(book, "td"))
        book = book.with_template(read_template("none(?h) = c()"))
        with self.assertRaises(CaughtError):
            book.with_template(read_template("last(?h) = !none(!td(?h))"))
        book = Book([read_template("none(?h) = c()")] + [book[name] for name in ("ta", "tb", "tc")]
                    + [read_template("last(?h) = f(!none(!tc(?h)), ?h)")])
        self.assertEqual(table_of(book, "last").rows(), [("hole", "h", (), None)])

    def test_heights_of_60_and_61(self):
        book = read_book("u(?h) = ?h\nt(?h) = " + "!u(" * 59 + "?h" + ")" * 59)
        self.assertEqual(table_of(book, "t").rows(), [("hole", "h", (), None)])
        for text, height in [
            ("u(?h) = f(?h)\nt(?h) = " + "!u(" * 30 + "?h" + ")" * 30, 61),
            ("u(?h) = f(?h)\nt(?h) = " + "!u(" * 29 + "f(?h)" + ")" * 29, None),
            ("u(?h) = f(?h)\nt(?h) = " + "!u(" * 29 + "f(f(?h))" + ")" * 29, 61),
            ("u(?h) = f(?h)\nt(?h) = f(?h, " + "!u(" * 29 + "a" + ")" * 30, None),
            ("u(?h) = f(?h)\nt(?h) = f(?h, " + "!u(" * 29 + "f(a)" + ")" * 30, 61),
            ("u(?h) = c()\nt(?h) = !u(" + "f(" * 58 + "?h" + ")" * 59, None),
        ]:
            book = read_book(text)
            if height is None:
                self.assertIsInstance(table_of(book, "t"), Table)
            else:
                self.check_name(TooLarge, height, lambda: table_of(book, "t"))
        self.assertEqual(len(table_of(Book([Template("t", [], chain(60))]), "t").rows()), 1)

    def test_the_size_is_told_ahead_of_the_height(self):
        book = read_book("u(?h) = f(?h, f(b, b, b), f(b, b, b))\nt(?h) = " + "!u(" * 50 + "?h" + ")" * 50)
        self.check_name(TooLarge, 451, lambda: table_of(book, "t"))
        book = read_book("u(?h) = f(?h, f(b, b, b))\nt(?h) = " + "!u(" * 50 + "?h" + ")" * 50)
        self.check_name(TooLarge, 102, lambda: table_of(book, "t"))


class TableFrom(Checks):
    def setUp(self):
        self.book = read_book(SWAP + "\n" + LOOP)
        self.tables = tables_of(self.book)

    def test_tables_that_are_not_needed(self):
        template = read_template("t(?h) = !swap(?h, x)")
        table = table_from(template, {"swap": self.tables["swap"]})
        self.assertEqual(table_from(template, self.tables), table)
        self.assertEqual(table_from(template, {**self.tables, "t": self.tables["loop"], "zz": table}), table)
        self.assertEqual(table_from(self.book["swap"], {}), self.tables["swap"])
        self.assertEqual(table_from(self.book["swap"], self.tables), self.tables["swap"])

    def test_a_template_may_have_the_name_of_what_it_calls(self):
        found = table_from(read_template("swap(?a) = !swap(?a, t)"), self.tables)
        self.assertEqual(found.rows(), [("hole", "a", (), None), ("use", "t", own("t"), None),
            ("use", "t", own("t"), 0)])
        self.assertEqual(found.parameters, ("?a",))

    def test_values_that_are_no_templates(self):
        for template in values_of_every_kind() + [self.tables["swap"]]:
            if not isinstance(template, Template):
                self.check_raises(InvalidTemplate, "value", template, lambda: table_from(template, None))

    def test_values_that_are_no_dicts_of_tables(self):
        swap, template = self.tables["swap"], read_template("t() = !gone()")
        for tables in values_of_every_kind() + [
            [swap], swap, {"swap": self.book["swap"]}, {"swap": swap, "t": None}, {"swap": swap, "let": swap},
            {1: swap}, {"$n": swap}, {"?h": swap}, {"sevenll": swap}, {"": swap}, {"swap": [swap]}, (("swap", swap),),
        ]:
            if tables != {}:
                self.check_raises(InvalidTables, "value", tables, lambda: table_from(template, tables))

    def test_calls(self):
        for text, error, at in [
            ("!gone()", UnknownTemplate, 0), ("f(!swap(a, b), !gone(!zz()))", UnknownTemplate, 1),
            ("!swap(!gone(), !swap())", UnknownTemplate, 1), ("!swap(!swap(), !gone())", InvalidCall, 1),
            ("!swap(a)", InvalidCall, 0), ("!loop(f(), a)", InvalidCall, 0), ("!loop(?h, a)", InvalidCall, 0),
            ("!loop(x, !loop($n, !loop(c(), a)))", InvalidCall, 2), ("!swap(a, b, d)", InvalidCall, 0),
        ]:
            template = Template("t", ["?h", "$n"], read_term(text))
            call = calls(template.body)[at]
            field, value = ("name", call[1]) if error == UnknownTemplate else ("value", call)
            self.check_raises(error, field, value, lambda: table_from(template, self.tables))
        self.check_name(UnknownTemplate, "swap", lambda: table_from(read_template("t() = !swap(a, b)"), {}))

    def test_400_and_401_rows(self):
        tables = {"two": table_from(read_template("two(?h) = f(?h, ?h)"), {})}
        body = ("call", "two", (wide_rows(200),))
        self.assertEqual(len(table_from(Template("t", [], body), tables).rows()), 400)
        body = ("op", "f", (A, body))
        self.check_name(TooLarge, 401, lambda: table_from(Template("t", [], body), tables))

        body = ("op", "f", (("call", "two", (wide_rows(200),)), ("op", "c", ())))
        self.assertEqual(len(table_from(Template("t", [], body), tables).rows()), 400)

    def test_rows_that_called_templates_have_by_themselves(self):
        tables = {"s": table_from(read_template("s(?h, $n) = f(?h, ?h, g(x, $n))"), {})}
        nested = read_term("!s(" * 7 + "?h" + ", y)" * 7)
        for more, count in [(1, None), (18, None), (19, 401), (100, 482)]:
            template = Template("t", ["?h"], ("op", "f", (nested, wide_rows(more))))
            if count is None:
                self.assertEqual(len(table_from(template, tables).rows()), 382 + more)
            else:
                self.check_name(TooLarge, count, lambda: table_from(template, tables))
        template = Template("t", ["?h"], read_term("!s(" * 50 + "?h" + ", y)" * 50))
        self.check_name(TooLarge, 3 * 2 ** 50 - 2, lambda: table_from(template, tables))

    def test_more_rows_than_a_flat_body_may_have_parts(self):
        tables = tables_of(read_book("two(?h) = f(g(?h), g(?h))\nfour(?h) = !two(!two(?h))\nmany(?h) = !four(!four(!four(?h)))"))
        self.assertEqual(len(tables["many"].rows()), 64)
        table = table_from(read_template("t() = f(!many(f(a, b, d)), !many(f(a, b, d)))"), tables)
        self.assertEqual(table.rows(), [("use", name, (), None) for name in "abd" * 128])

    def test_many_thousands_of_rows(self):
        text = "ta(?h) = f(f(?h, ?h, ?h), f(?h, ?h, ?h), f(?h, ?h, ?h))\ntb(?h) = !ta(!ta(?h))"
        tables = tables_of(read_book(text))
        self.assertEqual(len(tables["tb"].rows()), 81)
        self.check_name(TooLarge, 729, lambda: table_from(read_template("t(?h) = !tb(!ta(?h))"), tables))
        template = Template("t", ["?h"], read_term("!tb(" * 50 + "f(?h, a)" + ")" * 50))
        self.check_name(TooLarge, 2 * 81 ** 50, lambda: table_from(template, tables))
        template = Template("t", ["?h"], read_term("!tb(f(b, !tb(f(b, !tb(f(b, ?h))))))"))
        self.check_name(TooLarge, 81 + 81 ** 2 + 2 * 81 ** 3, lambda: table_from(template, tables))

    def test_arguments_without_rows(self):
        tables = tables_of(read_book("ta(?h) = f(f(?h, ?h, ?h), f(?h, ?h, ?h), f(?h, ?h, ?h))\nfirst(?h, ?k) = f(?h, !ta(?k))"))
        huge = "!ta(" * 55 + "c()" + ")" * 55
        for text, rows in [
            ("t(?h) = " + huge, []), (f"t(?h) = !first(?h, {huge})", [("hole", "h", (), None)]),
            (f"t(?h) = let x = {huge} in f({huge}, x)", [("use", "x", own("x"), 0)]),
            ("t(?h) = " + "!first(" * 35 + "?h" + f", {'!ta(' * 8}c(){')' * 8})" * 35, [("hole", "h", (), None)]),
        ]:
            self.assertEqual(table_from(read_template(text), tables).rows(), rows)

    def test_heights_and_sizes_do_not_matter(self):
        tables = tables_of(read_book("u(?h) = f(f(f(f(f(f(f(f(f(f(f(f(?h))))))))))))\nv(?h) = !u(!u(!u(!u(?h))))"))
        table = table_from(read_template("t(?h) = " + "!v(" * 59 + "?h" + ")" * 59), tables)
        self.assertEqual(table.rows(), [("hole", "h", (), None)])
        tables = tables_of(read_book("u(?h) = let x = c() in ?h"))
        table = table_from(read_template("t(?h) = " + "!u(" * 58 + "f(?h, x)" + ")" * 58), tables)
        self.assertEqual(table.rows(), [("hole", "h", own(*["x"] * 58), None), ("use", "x", own(*["x"] * 58), None)])

    def test_what_is_passed_may_be_changed_afterwards(self):
        parameters = ["?h"]
        template = Template("t", parameters, read_term("!swap(?h, x)"))
        tables = dict(self.tables)
        table = table_from(template, tables)
        rows = table.rows()
        parameters.append("$n")
        tables.clear()
        self.assertEqual([table.rows(), table.parameters], [rows, ("?h",)])
        kept = dict(self.tables)
        table_from(template, self.tables)
        self.assertEqual(self.tables, kept)


def wide_rows(many):
    """A body with so many uses."""
    if many <= 3:
        return ("op", "f", (A,) * many)
    third = many // 3
    return ("op", "f", (wide_rows(third), wide_rows(third), wide_rows(many - 2 * third)))


if __name__ == "__main__":
    import unittest
    unittest.main()
