"""Tests of barred, foreign, broken and site_barred of a table: promises 4, 7, 8 and 73."""

from caughtnames.booktexts import read_book
from caughtnames.catches import catches
from caughtnames.errors import InvalidChoice, TooLarge, UnknownHole
from caughtnames.tables import table_of
from caughtnames.verdicts import call_of
from chance import book_and_program
from checks import Checks
from references import table_rows
from samples import values_of_every_kind

LOOP = "loop($m, ?h) = each $m of all: f($m, ?h, k)"


def table_of_last(text):
    book = read_book(text)
    return table_of(book, book.names()[-1])


def actual(binder, names):
    return names[binder[1]] if binder[0] == "given" else binder[1]


def nearest(above, name, names):
    """The index of the nearest binder for a name, or None."""
    found = [at for at, binder in enumerate(above) if actual(binder, names) == name]
    return found[-1] if found else None


def barred_by_rows(rows, hole, names):
    """What barred and foreign return, found name by name."""
    barred, foreign = set(), set()
    for what, who, above, meant in rows:
        if (what, who) == ("hole", hole):
            for name in {actual(binder, names) for binder in above}:
                foreign.add(name)
                if above[nearest(above, name, names)][0] == "own":
                    barred.add(name)
    return [sorted(barred), sorted(foreign)]


class Examples(Checks):
    def test_examples_of_the_document(self):
        table = table_of_last("swap(?a, ?b) = let t = ?a in pair(?b, t)")
        self.assertEqual([table.barred("a", {}), table.barred("b", {}), table.broken({}), table.site_barred({})],
                         [[], ["t"], [], []])
        table = table_of_last(LOOP)
        self.assertEqual(
            [table.barred("h", {"m": "x"}), table.foreign("h", {"m": "x"}), table.broken({"m": "k"}),
             table.site_barred({"m": "x"})], [[], ["x"], [3], ["all", "k"]])

    def test_barred_and_foreign(self):
        for text, names, barred, foreign in [
            ("t(?h) = ?h", {}, [], []), ("t(?h) = let x = ?h in c()", {}, [], []),
            ("t(?h) = let z = a in let b = a in ?h", {}, ["b", "z"], ["b", "z"]),
            ("t(?h) = f(let z = a in ?h, each b of a: ?h, let z = a in ?h)", {}, ["b", "z"], ["b", "z"]),
            ("t(?h, $n) = f(?h, let x = a in f(h, $n))", {"n": "h"}, [], []),
            ("t(?n, ?h, $h) = f(?h, let x = a in f(h, $h, ?n))", {"h": "h"}, [], []),
            ("t(?h) = want it = a in ?h", {}, [], ["it"]),
            ("t(?h) = let it = a in want it = b in ?h", {}, [], ["it"]),
            ("t(?h) = want it = a in let it = b in ?h", {}, ["it"], ["it"]),
            ("t(?h) = f(want it = a in ?h, let it = b in ?h)", {}, ["it"], ["it"]),
            ("t(?h, $n) = let x = a in let $n = b in ?h", {"n": "y"}, ["x"], ["x", "y"]),
            ("t(?h, $n) = let x = a in let $n = b in ?h", {"n": "x"}, [], ["x"]),
            ("t(?h, $n) = let $n = b in let x = a in ?h", {"n": "x"}, ["x"], ["x"]),
            ("t(?h, $n) = want x = a in let $n = b in ?h", {"n": "x"}, [], ["x"]),
            ("t(?h, $n, $m) = let $m = a in let x = b in let $n = d in ?h", {"n": "x", "m": "x"}, [], ["x"]),
            ("t(?h, $n, $m) = let $m = a in let x = b in let $n = d in ?h", {"n": "y", "m": "x"}, ["x"], ["x", "y"]),
            ("t(?h, $n, $m) = let $n = a in let n = b in let $m = d in ?h", {"n": "m", "m": "n"}, [], ["m", "n"]),
            ("s(?h) = want it = a in ?h\nt(?h) = !s(?h)", {}, ["it"], ["it"]),
            ("s(?h) = want it = a in ?h\nt(?h) = !s(want it = b in ?h)", {}, [], ["it"]),
            ("s(?h, $n) = let $n = a in ?h\nt(?h, $m) = !s(!s(?h, x), $m)", {"m": "x"}, ["x"], ["x"]),
            ("s(?h, $n) = let $n = a in ?h\nt(?h, $m) = !s(!s(?h, $m), x)", {"m": "x"}, [], ["x"]),
        ]:
            table = table_of_last(text)
            self.assertEqual([table.barred("h", names), table.foreign("h", names)], [barred, foreign], (text, names))

    def test_holes_are_told_apart(self):
        table = table_of_last("t(?h, ?k, ?m) = let x = ?h in f(?k, let y = a in ?k)")
        self.assertEqual([table.barred(hole, {}) for hole in "hkm"], [[], ["x", "y"], []])
        self.assertEqual([table.foreign(hole, {}) for hole in "hkm"], [[], ["x", "y"], []])

    def test_broken(self):
        for text, names, broken in [
            ("t() = let x = x in x", {}, []), ("t(?h) = let x = a in ?h", {}, []),
            ("s() = x\nt() = f(a, let x = a in !s())", {}, [2]),
            ("s(?k) = let x = a in ?k\nt() = let x = b in !s(f(x, x))", {}, [2, 3]),
            ("t($n) = let x = a in f($n, x)", {"n": "x"}, [1]), ("t($n) = let x = a in f($n, x)", {"n": "y"}, []),
            ("t($n) = let $n = a in f($n, x)", {"n": "x"}, [2]), ("t($n) = let $n = a in f($n, x)", {"n": "y"}, []),
            ("t($n) = let $n = a in let x = b in f($n, x)", {"n": "x"}, [2]),
            ("t($n) = let x = b in let $n = x in f($n, x)", {"n": "x"}, [3]),
            ("t($n) = let x = b in let $n = x in let x = d in f($n, x)", {"n": "x"}, [3]),
            ("t($n) = want x = a in $n", {"n": "x"}, []), ("t($n) = want x = a in let $n = b in f($n, x)", {"n": "x"},
             [3]),
            ("t($n) = let x = a in want x = b in $n", {"n": "x"}, []),
            ("t($n) = want x = a in let x = b in $n", {"n": "x"}, [2]),
            ("t($n, $m) = let $n = a in let $m = b in $n", {"n": "x", "m": "x"}, []),
            ("t($n, $m) = let $n = a in let x = b in let $m = d in $n", {"n": "x", "m": "y"}, [3]),
            ("t($n, $m) = let $n = a in let x = b in let $m = d in $n", {"n": "x", "m": "x"}, []),
            ("s($n) = want x = a in $n\nt($m) = !s($m)", {"m": "x"}, [1]),
            ("s($n) = want x = a in $n\nt() = !s(x)", {}, []),
            (LOOP, {"m": "k"}, [3]), (LOOP, {"m": "all"}, []), (LOOP, {"m": "f"}, []),
        ]:
            self.assertEqual(table_of_last(text).broken(names), broken, (text, names))

    def test_site_barred(self):
        for text, names, barred in [
            ("t() = f(z, b, f(z, c()))", {}, ["b", "z"]), ("t() = let x = x in x", {}, ["x"]),
            ("t() = let x = y in x", {}, ["y"]),
            ("t(?h) = ?h", {}, []), ("t($n) = f($n, n)", {"n": "x"}, ["n"]), ("t($n) = f($n, n)", {"n": "n"}, ["n"]),
            ("t($n) = let $n = c() in x", {"n": "x"}, []), ("t($n) = let $n = c() in x", {"n": "y"}, ["x"]),
            ("t($n) = let $n = x in x", {"n": "x"}, ["x"]), ("s() = x\nt() = let x = c() in !s()", {}, []),
            ("s() = f(x, y)\nt() = let x = c() in !s()", {}, ["y"]), ("t() = want it = it in it", {}, ["it"]),
        ]:
            self.assertEqual(table_of_last(text).site_barred(names), barred, (text, names))

    def test_tables_by_chance(self):
        checked = 0
        for seed in range(400):
            book, program = book_and_program(seed, 12)
            for name in book.names():
                try:
                    table = table_of(book, name)
                except TooLarge:
                    continue
                template, rows = book[name], table_rows(book, book[name])
                for first, second in ["xy", "xx", "ab", "qr", "qx"]:
                    names = dict(zip(template.choices(), [first, second]))
                    for hole in template.holes():
                        self.assertEqual([table.barred(hole, names), table.foreign(hole, names)],
                                         barred_by_rows(rows, hole, names))
                    self.check_broken(book, template, table, rows, names)
                    checked += 1
        self.assertGreater(checked, 1000)

    def check_broken(self, book, template, table, rows, names):
        """With fillings that use no names, the broken rows are the caught uses."""
        if len(rows) < 150:
            program = call_of(template, names, {hole: ("op", "c", ()) for hole in template.holes()})
            uses = [at for at, row in enumerate(rows) if row[0] != "hole"]
            try:
                found = [uses[use] for use, text, meant in catches(book, program)]
            except TooLarge:
                return
            self.assertEqual(table.broken(names), found)


class Arguments(Checks):
    def test_unknown_holes(self):
        table = table_of_last("t(?h, $n) = let $n = x in ?h")
        for hole in values_of_every_kind() + ["n", "$n", "?h", "hh", ["h"], ("h",)]:
            for method in (table.barred, table.foreign):
                self.check_raises(UnknownHole, "name", hole, lambda: method(hole, {"n": "x"}))
                self.check_raises(UnknownHole, "name", hole, lambda: method(hole, None))

    def test_values_that_are_no_choices(self):
        for text, choices in [
            ("t(?h, $n) = ?h", [
                {}, {"n": "x", "m": "x"}, {"m": "x"}, {"$n": "x"}, {"n": "let"}, {"n": "$n"}, {"n": ""}, {"n": None},
                {"n": True}, {"n": ["x"]}, {"n": ("name", "x")}, {"n": "x", 1: "x"}, {1: "x"}, {"n": "x", "h": "x"}]),
            ("t(?h) = ?h", [{"n": "x"}, {"h": "x"}, {"": "x"}, {0: "x"}]),
            ("t(?h, $n, $m) = ?h", [{}, {"n": "x"}, {"m": "x"}, {"n": "x", "m": "let"},
             {"n": "x", "m": "y", "k": "z"}]),
        ]:
            table = table_of_last(text)
            for names in choices + values_of_every_kind():
                if names != {} or len(table.parameters) > 1:
                    for method in (table.broken, table.site_barred):
                        self.check_raises(InvalidChoice, "value", names, lambda: method(names))
                    for method in (table.barred, table.foreign):
                        self.check_raises(InvalidChoice, "value", names, lambda: method("h", names))

    def test_the_order_of_keys_does_not_matter(self):
        table = table_of_last("t(?h, $n, $m) = let $n = a in let $m = b in f(?h, a, b)")
        for names in [{"n": "a", "m": "b"}, {"m": "b", "n": "a"}]:
            found = [table.barred("h", names), table.foreign("h", names), table.broken(names), table.site_barred(names)]
            self.assertEqual(found, [[], ["a", "b"], [3, 4], ["a", "b"]])

    def test_arguments_are_not_changed_and_lists_are_new(self):
        table = table_of_last("t(?h, $n) = let x = a in let $n = x in f(?h, x)")
        names = {"n": "x"}
        for function in (lambda: table.barred("h", names), lambda: table.foreign("h", names),
                         lambda: table.broken(names), lambda: table.site_barred(names)):
            first = function()
            self.assertIsInstance(first, list)
            kept = list(first)
            first.append("more")
            self.assertEqual(function(), kept)
        self.assertEqual(names, {"n": "x"})


if __name__ == "__main__":
    import unittest
    unittest.main()
