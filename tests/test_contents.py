"""Tests of size, depth, uses, binders and calls: promises 2, 7, 22 and 23."""

import unittest

from caughtnames.errors import InvalidBody
from caughtnames.terms import binders, calls, depth, size, uses
from samples import chain, values_of_every_kind, wide, wide_and_deep

FUNCTIONS = [size, depth, uses, binders, calls]
A = ("name", "a")
B = ("name", "b")
BODY = ("let", "x", ("name", "x"),
        ("call", "t", (("name", "$n"), ("each", "y", ("name", "a"), ("name", "x")))))

INNER = ("call", "v", (("name", "q"),))
MIDDLE = ("call", "u", (("hole", "h"), INNER))
OUTER = ("call", "t", (("name", "p"), MIDDLE, ("call", "w", ())))


class Contents(unittest.TestCase):
    def test_example_of_the_document(self):
        found = [size(BODY), depth(BODY), uses(BODY), binders(BODY), [call[1] for call in calls(BODY)]]
        self.assertEqual(found, [7, 4, ["x", "$n", "a", "x"], ["x", "y"], ["t"]])

    def test_arguments_by_name(self):
        found = [size(body=BODY), depth(body=BODY), uses(body=BODY), binders(body=BODY), calls(body=BODY)]
        self.assertEqual(found, [7, 4, ["x", "$n", "a", "x"], ["x", "y"], [BODY[3]]])

    def test_one_part(self):
        for body, used, called in [(A, ["a"], []), (("name", "$n"), ["$n"], []), (("hole", "h"), [], []),
                                   (("op", "c", ()), [], []), (("call", "t", ()), [], [("call", "t", ())])]:
            found = [size(body), depth(body), uses(body), binders(body), calls(body)]
            self.assertEqual(found, [1, 1, used, [], called])

    def test_size_and_depth_of_each_kind(self):
        for body, parts, levels in [
            (("op", "f", (A,)), 2, 2), (("op", "f", (A, B, A)), 4, 2), (("let", "x", A, B), 3, 2),
            (("each", "x", A, B), 3, 2), (("want", "x", A, B), 3, 2), (("call", "t", (A, B, A, B, A)), 6, 2),
            (("let", "x", ("op", "f", (A,)), B), 4, 3), (("let", "x", B, ("op", "f", (A,))), 4, 3),
            (("op", "f", (A, ("want", "x", ("call", "t", (A,)), B))), 6, 4),
            (("call", "t", (("hole", "h"), ("each", "$n", A, ("op", "f", ())))), 5, 3),
        ]:
            self.assertEqual([size(body), depth(body)], [parts, levels], body)

    def test_size_and_depth_met_exactly(self):
        self.assertEqual([size(wide(400)), size(chain(60)), depth(chain(60))], [400, 60, 60])
        body = wide_and_deep(400, 60)
        self.assertEqual([size(body), depth(body), binders(body), calls(body)], [400, 60, [], []])

    def test_uses_in_the_order_of_text(self):
        body = ("let", "x", ("op", "f", (A, ("each", "y", B, ("name", "$n")), ("name", "d"))),
                ("want", "z", ("call", "t", (("name", "$m"), ("name", "e"))), A))
        self.assertEqual(uses(body), ["a", "b", "$n", "d", "$m", "e", "a"])

    def test_operators_holes_binders_and_called_names_are_no_uses(self):
        body = ("let", "x", ("op", "f", (("hole", "h"),)), ("call", "t", (("each", "$n", ("hole", "h"), A),)))
        self.assertEqual(uses(body), ["a"])

    def test_binders_in_the_order_of_text(self):
        body = ("let", "x",
                ("each", "y", ("let", "z", A, B), ("want", "w", A, B)),
                ("call", "t", (("let", "$n", A, ("let", "v", A, B)), ("each", "x", A, B))))
        self.assertEqual(binders(body), ["x", "y", "z", "w", "$n", "v", "x"])

    def test_binders_within_first_parts_come_before_those_within_second_parts(self):
        body = ("each", "c", ("let", "d", ("let", "e", A, B), ("let", "f", A, B)), ("let", "b", A, B))
        self.assertEqual(binders(body), ["c", "d", "e", "f", "b"])

    def test_names_of_applications_are_no_binders(self):
        self.assertEqual(binders(("op", "f", (A, ("call", "t", (B,)), ("hole", "h")))), [])

    def test_a_call_comes_before_the_calls_in_its_arguments(self):
        self.assertEqual(calls(OUTER), [OUTER, MIDDLE, INNER, ("call", "w", ())])

    def test_calls_are_whole_and_in_the_order_of_text(self):
        body = ("let", "x", ("call", "a", ()), ("op", "f", (OUTER, ("want", "y", ("call", "b", (A,)), INNER))))
        self.assertEqual(calls(body),
                         [("call", "a", ()), OUTER, MIDDLE, INNER, ("call", "w", ()), ("call", "b", (A,)), INNER])

    def test_equal_calls_are_listed_as_often_as_they_occur(self):
        self.assertEqual(calls(("op", "f", (INNER, INNER))), [INNER, INNER])

    def test_lists_may_be_changed(self):
        for function in (uses, binders, calls):
            body = ("let", "x", A, INNER)
            first = function(body)
            self.assertIsInstance(first, list)
            kept = list(first)
            first.append("more")
            self.assertEqual(function(body), kept)
            self.assertIsNot(function(body), function(body))


class WrongBodies(unittest.TestCase):
    def refuse(self, value):
        """Each function raises InvalidBody with the very object."""
        for function in FUNCTIONS:
            with self.assertRaises(InvalidBody) as held:
                function(value)
            self.assertIs(held.exception.value, value)

    def test_values_that_are_no_bodies(self):
        for value in values_of_every_kind():
            if value not in [A, ("call", "t", (A,))]:
                self.refuse(value)

    def test_wrong_parts(self):
        for value in [("name", "let"), ("name", "abcdefg"), ("name", True), ("name", "?a"), ("hole", "?h"),
                      ("hole", "let"), ("op", "f", [A]), ("op", "f", (A, A, A, A)), ("op", "$n", ()),
                      ("call", "t", (A,) * 6), ("call", "$n", ()), ("want", "$n", A, B), ("let", "x", A),
                      ("let", "$let", A, B), ("each", "?h", A, B), ["name", "a"]]:
            self.refuse(value)
            self.refuse(("let", "x", A, ("call", "t", (B, value))))

    def test_too_large_and_too_deep(self):
        for value in (wide(401), wide(420), chain(61), chain(70), wide_and_deep(401, 60), wide_and_deep(400, 61)):
            self.refuse(value)

    def test_any_parameters_are_allowed(self):
        body = ("let", "$n", ("hole", "h"), ("op", "f", (("name", "$m"), ("hole", "n"), ("want", "x", A, B))))
        found = [size(body), depth(body), uses(body), binders(body), calls(body)]
        self.assertEqual(found, [8, 4, ["$m", "a", "b"], ["$n", "x"], []])


if __name__ == "__main__":
    unittest.main()
