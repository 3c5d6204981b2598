"""Tests of value_rows, same_value and evaluate: promises 2, 7, 8, 31, 41, 42, 43 and 44."""

import inspect
import itertools
import unittest

from caughtnames import values as module
from caughtnames.errors import InvalidMeaning, InvalidTerm
from caughtnames.scopes import free_names
from caughtnames.terms import is_term, size
from caughtnames.termtexts import read_term
from caughtnames.values import evaluate, same_value, value_rows
from chance import Chance
from references import parts_in_text, rows_of, value_of
from samples import chain, values_of_every_kind, wide, wide_and_deep

A = ("name", "a")

NO_TERMS = [
    ("call", "t", ()), ("op", "f", (("call", "t", (A,)),)), ("hole", "h"), ("let", "x", ("hole", "h"), A),
    ("want", "x", A, A), ("name", "$n"), ("let", "$n", A, A), ["name", "a"], ("op", "f", [A]), ["let", "x", A, A],
    ("op", "f", (A, A, A, A)), chain(61), wide(401), wide(800), wide_and_deep(420, 70),
]


def no_terms():
    return NO_TERMS + [value for value in values_of_every_kind() if value != A]


def many_rows_text(levels):
    """The text of a term whose value has about twice as many rows for each level more."""
    names = "abcdefghijklmnop"[:levels]
    inner = "c()"
    for name in names:
        inner = f"f(x{name}, {inner})"
    for name in names:
        inner = f"each x{name} of a: let z = {inner} in g(z, each y of b: z)"
    return inner


def rows_of_text(text):
    return value_rows(read_term(text))


class Interface(unittest.TestCase):
    def test_signatures(self):
        for name, signature in [
            ("value_rows", "(term)"), ("same_value", "(one, other)"),
            ("evaluate", "(term, functions, values, *, each=None)"),
        ]:
            function = getattr(module, name)
            self.assertEqual(str(inspect.signature(function)), signature)
            self.assertEqual(function.__module__, "caughtnames.values")

    def test_arguments_by_name(self):
        self.assertEqual(value_rows(term=A), [("free", "a")])
        self.assertIs(same_value(other=A, one=A), True)
        self.assertEqual(evaluate(values={"a": 1}, functions={}, term=A, each=None), 1)

    def test_values_that_are_no_terms(self):
        for value in no_terms():
            for function in [
                value_rows, lambda term: same_value(term, A), lambda term: same_value(A, term),
                lambda term: same_value(term, ["b"]), lambda term: evaluate(term, {}, {}),
                lambda term: evaluate(term, None, None),
            ]:
                with self.assertRaises(InvalidTerm) as caught:
                    function(value)
                self.assertIs(caught.exception.value, value)

    def test_first_and_other_one(self):
        first, second = ["no"], ["no"]
        with self.assertRaises(InvalidTerm) as caught:
            same_value(first, second)
        self.assertIs(caught.exception.value, first)
        with self.assertRaises(InvalidTerm) as caught:
            same_value(A, second)
        self.assertIs(caught.exception.value, second)


class Rows(unittest.TestCase):
    def test_examples_of_the_document(self):
        self.assertEqual(
            rows_of_text("let x = f(a, a) in f(x, x)"), [("free", "a"), ("op", "f", (0, 0)), ("op", "f", (1, 1))])
        self.assertEqual(
            rows_of_text("each i of a: let x = i in each j of i: f(j, x)"),
            [("free", "a"), ("bound", 0), ("bound", 1), ("op", "f", (1, 2)), ("each", 1, 3), ("each", 0, 4)])

    def test_rows(self):
        for text, rows in [
            ("a", [("free", "a")]), ("c()", [("op", "c", ())]),
            ("f(b, a, b)", [("free", "b"), ("free", "a"), ("op", "f", (0, 1, 0))]),
            ("f(g(a), g(a))", [("free", "a"), ("op", "g", (0,)), ("op", "f", (1, 1))]),
            ("f(g(b), g(a))",
             [("free", "b"), ("op", "g", (0,)), ("free", "a"), ("op", "g", (2,)), ("op", "f", (1, 3))]),
            ("let x = huge(a, b, c) in d", [("free", "d")]), ("let x = a in x", [("free", "a")]),
            ("let x = x in x", [("free", "x")]), ("let x = f(x) in let x = f(x) in x",
             [("free", "x"), ("op", "f", (0,)), ("op", "f", (1,))]),
            ("each x of x: x", [("free", "x"), ("bound", 0), ("each", 0, 1)]),
            ("each x of a: each y of b: f(x, y)",
             [("free", "a"), ("free", "b"), ("bound", 1), ("bound", 0), ("op", "f", (2, 3)), ("each", 1, 4),
              ("each", 0, 5)]),
            ("each x of a: each y of x: f(x, y)",
             [("free", "a"), ("bound", 0), ("bound", 1), ("op", "f", (2, 1)), ("each", 1, 3), ("each", 0, 4)]),
            ("each x of each y of a: y: x", [("free", "a"), ("bound", 0), ("each", 0, 1), ("each", 2, 1)]),
            ("each x of a: each y of b: each z of c: f(x, y, z)",
             [("free", "a"), ("free", "b"), ("free", "c"), ("bound", 2), ("bound", 1), ("bound", 0),
              ("op", "f", (3, 4, 5)), ("each", 2, 6), ("each", 1, 7), ("each", 0, 8)]),
            ("let x = y in each y of a: f(x, y)",
             [("free", "a"), ("free", "y"), ("bound", 0), ("op", "f", (1, 2)), ("each", 0, 3)]),
            ("each i of a: let x = f(i) in g(x, each j of b: x)",
             [("free", "a"), ("bound", 0), ("op", "f", (0 + 1,)), ("free", "b"), ("bound", 1), ("op", "f", (4,)),
              ("each", 3, 5), ("op", "g", (2, 6)), ("each", 0, 7)]),
            ("let x = each i of a: i in each j of x: x",
             [("free", "a"), ("bound", 0), ("each", 0, 1), ("each", 2, 2)]),
            ("each x of a: each x of x: x", [("free", "a"), ("bound", 0), ("each", 1, 1), ("each", 0, 2)]),
            ("each x of a: let y = each z of x: f(x, z) in each x of y: y",
             [("free", "a"), ("bound", 0), ("bound", 1), ("op", "f", (2, 1)), ("each", 1, 3), ("bound", 2),
              ("op", "f", (5, 1)), ("each", 2, 6), ("each", 4, 7), ("each", 0, 8)]),
            ("f(each x of a: x, each y of a: y)",
             [("free", "a"), ("bound", 0), ("each", 0, 1), ("op", "f", (2, 2))]),
            ("f(f(), f)", [("op", "f", ()), ("free", "f"), ("op", "f", (0, 1))]),
        ]:
            self.assertEqual(rows_of_text(text), rows, text)

    def test_terms_by_chance(self):
        for seed in range(600):
            term = Chance(seed).body(40)
            value = value_of(term)
            self.assertEqual(value_rows(term), rows_of(value))

    def test_results_are_new_lists(self):
        term = read_term("f(a)")
        value_rows(term).clear()
        self.assertEqual(value_rows(term), [("free", "a"), ("op", "f", (0,))])

    def test_lets_that_double_one_another(self):
        text = "a"
        for number in range(30):
            text = "let x = f(a, a) in " if number == 0 else text + "let x = f(x, x) in "
        text += "f(x, x)"
        rows = rows_of_text(text)
        self.assertEqual(rows, [("free", "a")] + [("op", "f", (at, at)) for at in range(31)])
        self.assertIs(same_value(read_term(text), read_term(text.replace("x", "y"))), True)
        self.assertIs(same_value(read_term(text), read_term(text.replace("a, a", "a, b"))), False)
        self.assertIs(same_value(read_term(text), read_term(text.replace("f(a, a)", "a"))), False)

    def test_lets_below_different_eaches(self):
        text = "each i of a: each j of a: let x = f(i, j) in " + "let x = each k of x: g(x, f(x, x), k) in " * 25 + "x"
        self.assertLess(len(rows_of_text(text)), 5000)
        self.assertIs(same_value(read_term(text), read_term(text.replace("k", "m").replace("x", "y"))), True)
        self.assertIs(same_value(read_term(text), read_term(text.replace("f(i, j)", "f(j, i)"))), False)

    def test_a_let_that_is_not_used_costs_nothing(self):
        text = many_rows_text(16)
        self.assertEqual(rows_of_text("let w = " + text + " in d"), [("free", "d")])
        self.assertEqual(len(rows_of_text(many_rows_text(3))), len(rows_of(value_of(read_term(many_rows_text(3))))))
        self.assertGreater(len(rows_of_text(many_rows_text(10))), 1000)

    def test_values_too_large_to_be_listed(self):
        text = many_rows_text(16).replace("c()", "f(xa, xb)")
        for other, same in [
            (text.replace("z", "w").replace("y", "zz"), True), (text.replace("f(xa, xb)", "f(xb, xa)"), False),
            (text.replace("f(xa, xb)", "let w = xa in f(w, xb)"), True), (text.replace("f(xa, xb)", "f(xa, xa)"), False),
        ]:
            self.assertIs(same_value(read_term(text), read_term(other)), same)
            self.assertIs(same_value(read_term(other), read_term(text)), same)

    def test_values_as_deep_as_all_parts(self):
        text = ""
        parts = 2
        for number in range(58):
            levels = min(58 - number, 397 - parts)
            if levels < 1:
                break
            text += "let x = " + "f(" * (levels - 1) + ("x" if number else "a") + ")" * (levels - 1) + " in "
            parts += levels + 1
        term = read_term(text + "x")
        self.assertGreater(size(term), 390)
        rows = value_rows(term)
        self.assertGreater(len(rows), 370)
        self.assertEqual(rows, [("free", "a")] + [("op", "f", (at,)) for at in range(len(rows) - 1)])

    def test_about_five_thousand_rows(self):
        text = "each i of a: let x = f(i) in " + "let x = g(each k of x: x, x) in " * 50 + "x"
        rows = rows_of_text(text)
        self.assertGreater(len(rows), 2000)
        self.assertEqual(len(set(rows)), len(rows))

    def test_largest_terms(self):
        self.assertEqual(len(value_rows(chain(60))), 60)
        self.assertEqual(value_rows(wide(400))[0], ("free", "a"))
        term = read_term("each x of a: " * 59 + "x")
        self.assertEqual(
            value_rows(term), [("free", "a"), ("bound", 0), ("each", 0, 1)] + [("each", 0, at) for at in range(2, 60)])


class Same(unittest.TestCase):
    def test_terms(self):
        for one, other, expected in [
            ("let x = f(a) in g(x, x)", "g(f(a), f(a))", True), ("let x = a in b", "b", True), ("a", "b", False),
            ("each x of a: x", "each y of a: y", True), ("each x of a: x", "each x of a: a", False),
            ("each x of a: each y of a: x", "each y of a: each x of a: y", True),
            ("each x of a: each y of a: x", "each x of a: each y of a: y", False),
            ("let x = a in x", "each x of a: x", False), ("f(a)", "f(a, a)", False), ("f(a)", "g(a)", False),
            ("each x of a: let y = x in each x of b: y", "each x of a: each z of b: x", True),
            ("each x of a: let y = x in each x of b: y", "each x of a: each x of b: x", False),
            ("f()", "f", False), ("let x = x in let x = x in x", "x", True),
        ]:
            self.assertIs(same_value(read_term(one), read_term(other)), expected, (one, other))
            self.assertIs(same_value(read_term(other), read_term(one)), expected, (other, one))


# A meaning that gives the value itself: each result is a function that returns the part of
# the value, as value_of writes it, for the number of eaches that are around it.
VALUE_FUNCTIONS = {
    name: (lambda name: lambda items: lambda depth: ("op", name, tuple(item(depth) for item in items)))(name)
    for name in "fgc"}


def free_value(name):
    return lambda depth: ("free", name)


def each_value(top, value):
    return lambda depth: ("each", top(depth), value(lambda inner: ("bound", inner - depth - 1))(depth + 1))


class Evaluate(unittest.TestCase):
    def check(self, text, functions, values, each, expected):
        self.assertEqual(evaluate(read_term(text), functions, values, each=each), expected)

    def test_example_of_the_document(self):
        term = ("each", "i", ("name", "n"), ("op", "sum", (("name", "i"), ("name", "n"))))
        self.assertEqual(
            evaluate(term, {"sum": lambda items: sum(items)}, {"n": 3},
                     each=lambda top, value: [value(i) for i in range(top)]),
            [3, 4, 5])

    def test_functions(self):
        functions = {"sum": sum, "list": list, "text": "".join, "many": len, "none": lambda items: None}
        values = {"a": 2, "b": 5, "s": "x", "t": "yz", "sum": 7}
        times = lambda top, value: [value(at) for at in range(top)]
        for text, expected in [
            ("a", 2), ("sum", 7), ("sum()", 0), ("sum(a)", 2), ("sum(a, b)", 7), ("sum(a, b, sum)", 14),
            ("list(a, s, list())", [2, "x", []]), ("text(s, t, s)", "xyzx"), ("none(a)", None),
            ("many(a, a, a)", 3), ("many()", 0),
            ("let a = b in sum(a, a)", 10), ("let a = sum(a, a) in sum(a, a)", 8), ("let x = a in b", 5),
            ("let x = a in list(x, let x = b in x, x)", [2, 5, 2]),
            ("let x = let x = a in sum(x, x) in list(x, a)", [4, 2]),
            ("each a of a: list(a, b)", [[0, 5], [1, 5]]),
            ("each x of b: each y of x: sum(x, y)", [[], [1], [2, 3], [3, 4, 5], [4, 5, 6, 7]]),
            ("each x of a: let y = list(x) in each x of a: list(x, y)",
             [[[0, [0]], [1, [0]]], [[0, [1]], [1, [1]]]]),
            ("list(let b = a in b, b)", [2, 5]), ("let a = b in each b of a: a", [5, 5, 5, 5, 5]),
        ]:
            self.check(text, functions, values, times, expected)

    def test_an_each_whose_function_is_not_asked(self):
        self.check("each x of a: f(x)", {"f": None}, {"a": 4}, lambda top, value: top, 4)
        self.check("each x of a: each y of b: x", {}, {"a": 4, "b": 5}, lambda top, value: value(top), 4)
        self.check("each x of a: x", {}, {"a": [1]}, lambda top, value: [value(0), value(1), value(0)], [0, 1, 0])

    def test_each_is_not_needed_without_eaches(self):
        self.assertEqual(evaluate(read_term("let x = f(a) in x"), {"f": lambda items: items}, {"a": 1}), [1])

    def test_values_of_any_kind(self):
        for value in [None, True, [], {}, A, len, object()]:
            self.assertIs(evaluate(A, {}, {"a": value}), value)
            self.assertEqual(evaluate(read_term("f(a)"), {"f": lambda items: items}, {"a": value}), [value])

    def test_functions_take_one_list(self):
        seen = []
        evaluate(read_term("f(a, g(), b)"), {"f": seen.append, "g": seen.append}, {"a": 1, "b": 2})
        self.assertEqual(seen, [[], [1, None, 2]])
        self.assertTrue(all(isinstance(items, list) for items in seen))

    def test_arguments_are_unchanged(self):
        functions, values = {"f": sum}, {"a": 1, "x": 5}
        evaluate(read_term("let x = a in each y of f(x): x"), functions, values, each=lambda top, value: value(1))
        self.assertEqual([functions, values], [{"f": sum}, {"a": 1, "x": 5}])

    def test_equal_values_give_equal_results(self):
        for seed in range(300):
            term = Chance(seed).body(30)
            values = {name: free_value(name) for name in free_names(term)}
            found = evaluate(term, VALUE_FUNCTIONS, values, each=each_value)
            self.assertEqual(found(0), value_of(term))

    def test_different_values_differ_with_some_meaning(self):
        terms = sorted({Chance(seed, "ab").body(5) for seed in range(100)})
        values = {"a": free_value("a"), "b": free_value("b")}
        results = [evaluate(term, VALUE_FUNCTIONS, values, each=each_value)(0) for term in terms]
        for at, other in itertools.product(range(len(terms)), range(len(terms))):
            self.assertIs(same_value(terms[at], terms[other]), results[at] == results[other])

    def test_largest_terms(self):
        self.assertEqual(evaluate(chain(60), {"f": lambda items: items[0] + 1}, {"a": 0}), 59)
        term = read_term("each x of a: " * 59 + "x")
        self.assertEqual(evaluate(term, {}, {"a": 1}, each=lambda top, value: [value(at) for at in range(top)][0]), 0)
        term = read_term("let x = a in " + "let x = f(x, x) in " * 57 + "x")
        self.assertEqual(evaluate(term, {"f": sum}, {"a": 1}), 2 ** 57)


def refuse(*given):
    raise AssertionError("a function was called")


class Meanings(unittest.TestCase):
    def check_refused(self, text, functions, values, each, value):
        with self.assertRaises(InvalidMeaning) as caught:
            evaluate(read_term(text), functions, values, each=each)
        self.assertEqual(caught.exception.value, value)
        return caught.exception.value

    def test_values_that_are_no_dicts(self):
        for value in values_of_every_kind() + [[("f", refuse)], refuse]:
            if not isinstance(value, dict):
                self.assertIs(self.check_refused("f(a)", value, {"a": 1}, None, value), value)
                self.assertIs(self.check_refused("f(a)", {"f": refuse}, value, None, value), value)
                self.assertIs(self.check_refused("each x of g(b): x", value, [], None, value), value)
                self.assertIs(self.check_refused("each x of g(b): x", {}, value, None, value), value)

    def test_what_is_missing(self):
        for text, functions, values, each, value in [
            ("a", "", "", refuse, "a"), ("a", "a", "b", refuse, "a"), ("a()", "", "a", refuse, "a"),
            ("f(g(a))", "f", "a", None, "g"), ("f(g(a))", "g", "a", None, "f"), ("f(g(a))", "fg", "b", None, "a"),
            ("each x of a: x", "", "a", None, None), ("each x of a: x", "", "", refuse, "a"),
            ("let x = a in f(x)", "", "ax", None, "f"), ("let x = x in f(x)", "f", "", None, "x"),
            ("f(x, let x = a in x)", "f", "a", None, "x"), ("f(let x = a in x, x)", "f", "a", None, "x"),
            ("let x = a in b", "", "b", None, "a"), ("let x = f() in b", "", "b", None, "f"),
            ("each x of a: f(x)", "", "a", refuse, "f"), ("each x of a: b", "", "a", refuse, "b"),
        ]:
            self.check_refused(text, dict.fromkeys(functions, refuse), dict.fromkeys(values, 1), each, value)

    def test_the_first_of_several(self):
        for text, functions, values, value in [
            ("f(a, each x of b: g(c))", "", "", "f"), ("f(a, each x of b: g(c))", "f", "", "a"),
            ("f(a, each x of b: g(c))", "f", "a", None), ("f(each x of a: x, b)", "f", "", None),
            ("f(b, each x of a: x)", "f", "a", "b"), ("f(g(a), h(b))", "f", "", "g"), ("f(g(a), h(b))", "fg", "", "a"),
            ("f(g(a), h(b))", "fg", "a", "h"), ("each x of a: x", "", "", None), ("let x = a in f(b)", "", "", "a"),
        ]:
            self.check_refused(text, dict.fromkeys(functions, refuse), dict.fromkeys(values, 1), None, value)

    def test_no_function_is_called_before(self):
        self.check_refused("f(f(a), each x of f(a): f(b))", {"f": refuse}, {"a": 1}, refuse, "b")
        self.check_refused("let x = f(a) in each y of x: x", {"f": refuse}, {"a": 1}, None, None)


class Limits(unittest.TestCase):
    def test_the_terms_of_the_tests_are_terms(self):
        self.assertTrue(is_term(wide_and_deep(400, 60)))
        self.assertEqual(len(parts_in_text(wide(400))), 400)


if __name__ == "__main__":
    unittest.main()
