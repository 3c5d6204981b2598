"""Tests of scopes, free_names, alike_terms and with_names: promises 2, 4, 7, 8, 31, 32 and 33."""

import inspect
import itertools
import unittest

from caughtnames import scopes as module
from caughtnames.errors import InvalidChoice, InvalidTerm, UnknownBinder
from caughtnames.scopes import alike_terms, free_names, scopes, with_names
from caughtnames.terms import binders, uses
from caughtnames.termtexts import read_term, term_text
from chance import Chance
from references import text_binders, unique_binders
from samples import chain, values_of_every_kind, wide, wide_and_deep

TERM = ("let", "x", ("name", "x"), ("each", "x", ("name", "x"), ("op", "f", (("name", "x"), ("name", "y")))))
A = ("name", "a")

NO_TERMS = [
    ("call", "t", ()), ("op", "f", (("call", "t", (A,)),)), ("hole", "h"), ("let", "x", ("hole", "h"), A),
    ("want", "x", A, A), ("each", "x", A, ("want", "x", A, A)), ("name", "$n"), ("let", "$n", A, A),
    ["name", "a"], ("op", "f", [A]), ("let", "x", ["name", "a"], A), ["let", "x", A, A],
    ("name", "let"), ("op", "f", (A, A, A, A)), ("let", "x", A), chain(61), wide(401), wide(800), wide_and_deep(420, 70),
]


def no_terms():
    return NO_TERMS + [value for value in values_of_every_kind() if value != A]


class Interface(unittest.TestCase):
    def test_signatures(self):
        for name, signature in [
            ("scopes", "(term)"), ("free_names", "(term)"), ("alike_terms", "(one, other)"),
            ("with_names", "(term, names)"),
        ]:
            function = getattr(module, name)
            self.assertEqual(str(inspect.signature(function)), signature)
            self.assertEqual(function.__module__, "caughtnames.scopes")

    def test_arguments_by_name(self):
        self.assertEqual(scopes(term=A), [None])
        self.assertEqual(free_names(term=A), ["a"])
        self.assertIs(alike_terms(other=A, one=A), True)
        self.assertEqual(with_names(names={}, term=A), A)

    def test_values_that_are_no_terms(self):
        for value in no_terms():
            for function in [
                scopes, free_names, lambda term: alike_terms(term, A), lambda term: alike_terms(A, term),
                lambda term: alike_terms(term, ["b"]), lambda term: with_names(term, {}),
                lambda term: with_names(term, None), lambda term: with_names(term, {9: "a"}),
            ]:
                with self.assertRaises(InvalidTerm) as caught:
                    function(value)
                self.assertIs(caught.exception.value, value)


class Scopes(unittest.TestCase):
    def test_example_of_the_document(self):
        self.assertEqual([scopes(TERM), free_names(TERM)], [[None, 0, 1, None], ["x", "y"]])

    def test_scopes(self):
        for text, found, free in [
            ("a", [None], ["a"]), ("c()", [], []), ("f(b, a, b)", [None] * 3, ["a", "b"]),
            ("let x = x in x", [None, 0], ["x"]), ("each x of x: x", [None, 0], ["x"]),
            ("let x = a in let x = x in x", [None, 0, 1], ["a"]),
            ("let x = let x = x in x in x", [None, 1, 0], ["x"]),
            ("each x of each x of x: x: x", [None, 1, 0], ["x"]),
            ("let x = a in each x of x: x", [None, 0, 1], ["a"]),
            ("f(let x = a in x, x, each x of x: x)", [None, 0, None, None, 1], ["a", "x"]),
            ("let x = a in f(let y = x in y, y, each x of y: x)", [None, 0, 1, None, None, 2], ["a", "y"]),
            ("let x = a in let xy = x in let xyz = xy in f(xyz, x, xy)", [None, 0, 1, 2, 0, 1], ["a"]),
            ("let y = a in each x of y: f(x, y, z)", [None, 0, 1, 0, None], ["a", "z"]),
            ("f(ab, a, aa)", [None] * 3, ["a", "aa", "ab"]),
            ("f(f(z, y), f(z, x, ab), b)", [None] * 6, ["ab", "b", "x", "y", "z"]),
            ("x(let x = x() in x(x))", [0], []),
        ]:
            self.assertEqual([scopes(read_term(text)), free_names(read_term(text))], [found, free], text)

    def test_terms_by_chance(self):
        for seed in range(300):
            term = Chance(seed).body(60)
            found = text_binders(term)
            self.assertEqual(scopes(term), found)
            free = {name for name, binder in zip(uses(term), found) if binder is None}
            self.assertEqual(free_names(term), sorted(free))

    def test_largest_terms(self):
        self.assertEqual([scopes(chain(60)), free_names(wide(400))], [[None], ["a"]])
        term = read_term("let x = a in " * 59 + "x")
        self.assertEqual(scopes(term), [None] * 59 + [58])
        term = wide_and_deep(400, 60)
        self.assertEqual(scopes(term), [None] * len(scopes(term)))

    def test_results_are_new_lists(self):
        scopes(TERM).clear()
        free_names(TERM).clear()
        self.assertEqual([scopes(TERM), free_names(TERM)], [[None, 0, 1, None], ["x", "y"]])


class Alike(unittest.TestCase):
    def test_terms(self):
        for one, other, expected in [
            ("a", "a", True), ("a", "b", False), ("c()", "c()", True), ("c()", "d()", False), ("a", "a()", False),
            ("let x = a in x", "let y = a in y", True), ("let x = a in x", "let x = a in y", False),
            ("let x = a in x", "each x of a: x", False), ("let x = a in b", "let b = a in b", False),
            ("let x = x in x", "let y = x in y", True), ("let x = x in x", "let y = y in y", False),
            ("let x = a in let y = b in f(x, y)", "let y = a in let x = b in f(y, x)", True),
            ("let x = a in let y = b in f(x, y)", "let y = a in let x = b in f(x, y)", False),
            ("let x = a in let x = b in x", "let x = a in let y = b in y", True),
            ("let x = a in let x = b in x", "let x = a in let y = b in x", False),
            ("let x = a in let x = x in x", "let y = a in let z = y in z", True),
            ("each x of a: x", "each y of a: y", True), ("each x of a: x", "each y of b: y", False),
            ("each x of a: let y = x in y", "each y of a: let x = y in x", True),
            ("f(a)", "g(a)", False), ("f(a)", "f(a, a)", False), ("f(a, a, a)", "f(a, a)", False), ("f()", "f(a)", False),
            ("f(g(a), a)", "f(a, g(a))", False), ("f(g(), g())", "f(g(g()))", False),
            ("f(g(a, b), c)", "f(g(a), b, c)", False), ("f(g(a), b, c)", "f(g(a, b), c)", False),
            ("let f = a in f(f)", "let g = a in f(g)", True), ("let f = a in f(f)", "let g = a in g(g)", False),
            ("f(let x = a in x, x)", "f(let y = a in y, x)", True), ("f(let x = a in x, x)", "f(let y = a in y, y)", False),
        ]:
            self.assertIs(alike_terms(read_term(one), read_term(other)), expected, (one, other))
            self.assertIs(alike_terms(read_term(other), read_term(one)), expected, (other, one))

    def test_terms_by_chance(self):
        terms = sorted({Chance(seed, "ab").body(4) for seed in range(300)}, key=term_text)
        alike = 0
        for one, other in itertools.product(terms, terms):
            expected = unique_binders(one) == unique_binders(other)
            self.assertIs(alike_terms(one, other), expected)
            alike += expected and one != other
        self.assertGreater(alike, 20)

    def test_first_and_other_one(self):
        first, second = ["no"], ["no"]
        with self.assertRaises(InvalidTerm) as caught:
            alike_terms(first, second)
        self.assertIs(caught.exception.value, first)
        with self.assertRaises(InvalidTerm) as caught:
            alike_terms(A, second)
        self.assertIs(caught.exception.value, second)

    def test_largest_terms(self):
        self.assertIs(alike_terms(wide_and_deep(400, 60), wide_and_deep(400, 60)), True)
        self.assertIs(alike_terms(wide_and_deep(400, 60), wide_and_deep(399, 60)), False)


class WithNames(unittest.TestCase):
    def check(self, text, names, expected):
        term = read_term(text)
        self.assertEqual(term_text(with_names(term, names)), expected)
        self.assertEqual(term, read_term(text))

    def check_refused(self, text, names):
        with self.assertRaises(InvalidChoice) as caught:
            with_names(read_term(text), names)
        self.assertIs(caught.exception.value, names)

    def check_unknown(self, text, names, number):
        with self.assertRaises(UnknownBinder) as caught:
            with_names(read_term(text), names)
        self.assertEqual(caught.exception.number, number)
        self.assertIsInstance(caught.exception.number, int)

    def test_examples_of_the_document(self):
        self.assertEqual(
            with_names(TERM, {1: "z"}),
            ("let", "x", ("name", "x"), ("each", "z", ("name", "x"), ("op", "f", (("name", "z"), ("name", "y"))))))
        names = {1: "y"}
        with self.assertRaises(InvalidChoice) as caught:
            with_names(TERM, names)
        self.assertIs(caught.exception.value, names)

    def test_names_that_can_be_given(self):
        for text, names, expected in [
            ("a", {}, "a"), ("let x = x in x", {}, "let x = x in x"), ("let x = x in x", {0: "x"}, "let x = x in x"),
            ("let x = x in x", {0: "y"}, "let y = x in y"), ("let x = y in x", {0: "y"}, "let y = y in y"),
            ("each x of x: f(x, x)", {0: "y"}, "each y of x: f(y, y)"),
            ("let x = a in let y = b in f(x, y)", {0: "y", 1: "x"}, "let y = a in let x = b in f(y, x)"),
            ("let x = a in let y = b in f(x, y)", {1: "u", 0: "v"}, "let v = a in let u = b in f(v, u)"),
            ("let x = a in let x = x in x", {0: "y"}, "let y = a in let x = y in x"),
            ("let x = a in let x = x in x", {1: "y"}, "let x = a in let y = x in y"),
            ("let x = a in let y = x in y", {1: "x"}, "let x = a in let x = x in x"),
            ("let x = a in let y = b in y", {1: "x"}, "let x = a in let x = b in x"),
            ("let x = a in let y = b in y", {0: "y"}, "let y = a in let y = b in y"),
            ("f(let x = a in x, each x of a: x)", {1: "a"}, "f(let x = a in x, each a of a: a)"),
            ("let x = let x = a in x in x", {0: "b", 1: "c"}, "let b = let c = a in c in b"),
            ("let x = a in f()", {0: "f"}, "let f = a in f()"),
        ]:
            self.check(text, names, expected)

    def test_names_that_catch(self):
        for text, names in [
            ("let x = a in y", {0: "y"}), ("let x = a in f(x, y)", {0: "y"}), ("each x of a: y", {0: "y"}),
            ("let x = a in let y = b in x", {1: "x"}), ("let x = a in let y = b in f(x, y)", {1: "x"}),
            ("let x = a in let y = b in x", {0: "y"}), ("let x = a in let y = b in f(x, y)", {0: "y"}),
            ("let x = a in let y = b in f(x, y)", {0: "z", 1: "z"}),
            ("let x = a in each y of b: f(x, let z = x in z)", {2: "x", 1: "x"}),
            ("let x = a in let y = b in f(x, y, z)", {0: "u", 1: "z"}),
        ]:
            self.check_refused(text, names)

    def test_names_by_chance(self):
        given = refused = 0
        for seed in range(400):
            chance = Chance(seed)
            term = chance.body(7)
            many = len(binders(term))
            names = {number: chance.name() for number in range(many) if chance.random.random() < 0.5}
            good = [
                other for other in terms_with_names(term, names, many) if unique_binders(other) == unique_binders(term)]
            if good:
                given += 1
                self.assertEqual([with_names(term, names)], good)
            else:
                refused += 1
                with self.assertRaises(InvalidChoice):
                    with_names(term, names)
        self.assertGreater(min(given, refused), 50)

    def test_values_that_are_no_names(self):
        text = "let x = a in let y = b in f(x, y)"
        for names in values_of_every_kind() + [
            {True: "z"}, {False: "z"}, {"0": "z"}, {0: "z", "1": "z"}, {None: "z"}, {(0,): "z"}, {0: "let"}, {0: "abcdefg"},
            {0: "$n"}, {0: ""}, {0: 0}, {0: None}, {0: "u", 1: None}, {0: ["z"]}, {0: "Z"}, {0: ("name", "z")},
            [(0, "z")], ["z", "y"], ((0, "z"),),
        ]:
            if names != {}:
                self.check_refused(text, names)

    def test_unknown_binders(self):
        text = "let x = a in let y = b in f(x, y)"
        self.check_unknown(text, {2: "z"}, 2)
        self.check_unknown(text, {-1: "z"}, -1)
        self.check_unknown(text, {0: "z", 5: "u", 3: "v", 1: "w"}, 3)
        self.check_unknown(text, {5: "u", -2: "v", -1: "w"}, -2)
        self.check_unknown(text, {10 ** 29: "u"}, 10 ** 29)
        self.check_unknown("a", {0: "b"}, 0)

    def test_two_refusals_at_once(self):
        text = "let x = a in y"
        self.check_refused(text, {7: "let"})
        self.check_refused(text, {7: "z", True: "z"})
        self.check_refused(text, {7: "z", 0: 0})
        self.check_unknown(text, {7: "z", 0: "y"}, 7)

    def test_arguments_are_unchanged(self):
        term, names = read_term("let x = a in let y = b in f(x, y)"), {1: "z", 0: "u"}
        with_names(term, names)
        self.assertEqual([term_text(term), names], ["let x = a in let y = b in f(x, y)", {1: "z", 0: "u"}])


def terms_with_names(term, names, many):
    """The terms with these names of binders, and some name of a binder or of the old term for each use."""
    count = [0]

    def changed(part):
        if part[0] == "name":
            return [("name", name) for name in sorted({part[1], *names.values()})]
        if part[0] == "op":
            return [("op", part[1], inner) for inner in itertools.product(*[changed(inner) for inner in part[2]])]
        name = names.get(count[0], part[1])
        count[0] += 1
        firsts = changed(part[2])
        return [(part[0], name, first, second) for first, second in itertools.product(firsts, changed(part[3]))]

    return changed(term)


if __name__ == "__main__":
    unittest.main()
