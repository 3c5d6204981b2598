"""Tests of is_term, is_program and is_body: promises 2, 4, 7 and 21."""

import inspect
import unittest

from caughtnames import terms
from caughtnames.terms import is_body, is_program, is_term
from samples import chain, values_of_every_kind, wide, wide_and_deep

A = ("name", "a")
B = ("name", "b")

# Parts of right forms that any term may have.
TERM_PARTS = [
    A, ("name", "abcdef"), ("name", "lets"),
    ("op", "f", ()), ("op", "f", (A,)), ("op", "f", (A, B)), ("op", "f", (A, B, A)),
    ("let", "x", A, B), ("each", "x", A, B), ("let", "a", A, A),
    ("let", "x", ("op", "f", (A,)), ("each", "x", A, ("name", "x"))),
]
CALL_PARTS = [
    ("call", "t", ()), ("call", "t", (A,)), ("call", "t", (A, B, A, B, A)),
    ("call", "t", (("call", "u", ()), ("let", "x", A, B))),
]
WANT_PARTS = [("want", "x", A, B), ("want", "x", ("call", "t", ()), ("name", "x"))]

NO_NAMES = ["", "abcdefg", "let", "in", "each", "of", "want", "A", "a1", "a ", "?a", "$", "$let", "$abcdefg", "$$a",
            True, False, None, 0, 1, 7, A, ("a",), ["a"], {"a": "a"}]

# Values that are no part of any body, and so make no body where they stand within one.
WRONG_PARTS = [
    (), ("name",), ("op",), ("let",), ("each",), ("want",), ("call",), ("hole",),
    ("name", "a", "b"), ("name", "a", A), ["name", "a"], ("a",), "a", "name",
    ("names", "a"), ("", "a"), ("Name", "a"), (None, "a"), (True, "a"), (["name"], "a"), (("name",), "a"), ({}, "a"),
    ("op", "f"), ("op", "f", [A]), ("op", "f", []), ("op", "f", A), ("op", "f", (A,), A), ("op", (A,)),
    ("op", "f", None), ("op", "f", {}), ("op", "f", "ab"), ("op", "f", ""), ("op", "f", (A, B, A, B)),
    ("op", "$n", ()), ("op", "?h", ()), ["op", "f", (A,)],
    ("ops", "f", (A,)), ("let", "x", A), ("let", "x", A, B, A), ("let", "x", (A, B)), ["let", "x", A, B],
    ("each", "x", A), ("each", "x", A, B, A), ("each", "x", (A, B)), ["each", "x", A, B],
    ("want", "x", A), ("want", "x", A, B, A), ("want", "$n", A, B), ["want", "x", A, B],
    ("call", "t"), ("call", "t", [A]), ("call", "t", A), ("call", "t", (A,), A), ("call", "t", None),
    ("call", "t", (A, B, A, B, A, B)), ("call", "$n", ()), ["call", "t", (A,)], ("!", "t", ()),
    ("hole", "h", A), ("hole", "?h"), ("hole", "$n"), ["hole", "h"],
]

ALL = ["?h", "?a", "$n"]


def all_around(inner):
    """Bodies that have something in each place where a part of a body may stand."""
    return [
        ("op", "f", (inner,)), ("op", "f", (A, inner)), ("op", "f", (A, inner, B)), ("op", "f", (A, B, inner)),
        ("let", "x", inner, A), ("let", "x", A, inner), ("each", "x", inner, A), ("each", "x", A, inner),
    ]


def call_and_want_around(inner):
    """Bodies that have something in the places of a call and a wanted binder."""
    return [
        ("call", "t", (inner,)), ("call", "t", (A, A, A, A, inner)), ("want", "x", inner, A), ("want", "x", A, inner),
    ]


class Interface(unittest.TestCase):
    def test_signatures(self):
        for name, signature in [
            ("is_term", "(value)"), ("is_program", "(value)"), ("is_body", "(value, parameters)"),
            ("size", "(body)"), ("depth", "(body)"), ("uses", "(body)"), ("binders", "(body)"), ("calls", "(body)"),
        ]:
            function = getattr(terms, name)
            self.assertEqual(str(inspect.signature(function)), signature)
            self.assertEqual(function.__module__, "caughtnames.terms")

    def test_arguments_by_name(self):
        self.assertIs(is_term(value=A), True)
        self.assertIs(is_program(value=A), True)
        self.assertIs(is_body(parameters=["?h"], value=("hole", "h")), True)

    def test_examples_of_the_document(self):
        found = [is_term(("op", "f", (("name", "a"),))), is_term(("op", "f", [("name", "a")])), is_term(("name", "let"))]
        self.assertEqual(found, [True, False, False])
        found = [is_body(("hole", "h"), ["?h"]), is_body(("hole", "h"), ["$h"]), is_program(("call", "t", ())),
                 is_program(("want", "x", ("name", "a"), ("name", "x")))]
        self.assertEqual(found, [True, False, True, False])


class Kinds(unittest.TestCase):
    def check(self, value, term, program, body, parameters=()):
        """Whether value is a term, a program, and a body with the parameters."""
        self.assertIs(is_term(value), term, value)
        self.assertIs(is_program(value), program, value)
        self.assertIs(is_body(value, list(parameters)), body, value)

    def test_terms(self):
        for part in TERM_PARTS:
            self.check(part, True, True, True)
            for around in all_around(part):
                self.check(around, True, True, True)
            for around in all_around(("let", "y", B, part)):
                self.check(around, True, True, True)

    def test_calls_are_in_programs_but_not_in_terms(self):
        for part in CALL_PARTS:
            self.check(part, False, True, True)
            for around in all_around(part):
                self.check(around, False, True, True)

    def test_terms_as_arguments(self):
        for part in TERM_PARTS:
            self.check(("call", "t", (part, B)), False, True, True)

    def test_wanted_binders_are_in_bodies_alone(self):
        for part in WANT_PARTS:
            self.check(part, False, False, True)
            for around in all_around(part) + call_and_want_around(part):
                self.check(around, False, False, True)

    def test_holes_are_in_bodies_alone(self):
        for part in [("hole", "h")] + all_around(("hole", "h")) + call_and_want_around(("hole", "h")):
            self.check(part, False, False, True, ALL)
            self.check(part, False, False, False)

    def test_name_parameters_are_in_bodies_alone(self):
        named = [("name", "$n"), ("let", "$n", A, B), ("each", "$n", A, B)]
        for part in named + [around for name in named for around in all_around(name) + call_and_want_around(name)]:
            self.check(part, False, False, True, ALL)
            self.check(part, False, False, False)


class WrongParts(unittest.TestCase):
    def refuse(self, value):
        """The value is neither a term nor a program nor a body."""
        self.assertIs(is_term(value), False, value)
        self.assertIs(is_program(value), False, value)
        self.assertIs(is_body(value, []), False, value)
        self.assertIs(is_body(value, ALL), False, value)

    def test_at_the_top(self):
        for value in WRONG_PARTS:
            self.refuse(value)

    def test_within_other_parts(self):
        for value in WRONG_PARTS:
            for around in all_around(value) + call_and_want_around(value):
                self.refuse(around)

    def test_deep_within(self):
        for value in WRONG_PARTS:
            inner = value
            for _ in range(20):
                inner = ("let", "x", A, ("op", "f", (B, inner)))
            self.refuse(inner)

    def test_no_names_in_the_places_of_names(self):
        for name in NO_NAMES:
            for part in [("name", name), ("op", name, ()), ("op", name, (A,)), ("let", name, A, B),
                         ("each", name, A, B), ("want", name, A, B), ("call", name, ()), ("hole", name)]:
                self.refuse(part)
                self.refuse(("let", "x", A, ("op", "f", (B, part))))

    def test_names_of_seven_letters_and_of_six(self):
        self.assertIs(is_term(("op", "abcdef", (("name", "abcdef"),))), True)
        self.assertIs(is_term(("op", "abcdefg", (("name", "abcdef"),))), False)
        self.assertIs(is_term(("op", "abcdef", (("name", "abcdefg"),))), False)

    def test_any_value(self):
        for value in values_of_every_kind():
            term = value == A
            self.assertIs(is_term(value), term, value)
            program = term or value == ("call", "t", (A,))
            self.assertIs(is_program(value), program, value)
            self.assertIs(is_body(value, ALL), program, value)
            self.assertIs(is_term(("let", "x", A, value)), term, value)
            self.assertIs(is_term(("op", "f", value)), value == (), value)

    def test_numbers_of_operands_and_arguments(self):
        for many in range(8):
            self.assertIs(is_term(("op", "f", (A,) * many)), many <= 3)
            self.assertIs(is_program(("call", "t", (A,) * many)), many <= 5)

    def test_hundreds_of_operands(self):
        self.refuse(("op", "f", (A,) * 200))
        self.refuse(("call", "t", (A,) * 200))


class Parameters(unittest.TestCase):
    def test_hole_with_and_without_its_parameter(self):
        for parameters, expected in [(["?h"], True), (["?a", "?h"], True), (["$h", "?h"], True),
                                     ([], False), (["?a"], False), (["$h"], False), (["?hh"], False)]:
            self.assertIs(is_body(("hole", "h"), parameters), expected, parameters)

    def test_name_parameter_with_and_without_its_parameter(self):
        for value in [("name", "$n"), ("let", "$n", A, B), ("each", "$n", A, B), ("call", "t", (("name", "$n"),))]:
            for parameters, expected in [(["$n"], True), (["$a", "$n"], True), (["?n", "$n"], True),
                                         ([], False), (["$a"], False), (["?n"], False), (["$nn"], False)]:
                self.assertIs(is_body(value, parameters), expected, (value, parameters))

    def test_hole_and_name_parameter_of_one_name(self):
        body = ("let", "$x", ("hole", "x"), ("name", "$x"))
        self.assertIs(is_body(body, ["?x", "$x"]), True)
        self.assertIs(is_body(body, ["?x"]), False)
        self.assertIs(is_body(body, ["$x"]), False)
        self.assertIs(is_body(("let", "x", ("hole", "x"), ("name", "x")), ["?x"]), True)

    def test_parameters_need_not_occur(self):
        self.assertIs(is_body(A, ["?h", "$n"]), True)
        self.assertIs(is_body(("name", "n"), ["$n"]), True)

    def test_plain_names_need_no_parameter(self):
        self.assertIs(is_body(("let", "n", A, ("name", "n")), []), True)

    def test_a_hole_is_written_without_its_sign(self):
        self.assertIs(is_body(("hole", "?h"), ["?h"]), False)
        self.assertIs(is_body(("name", "?h"), ["?h"]), False)
        self.assertIs(is_body(("let", "?h", A, B), ["?h"]), False)

    def test_wanted_binder_has_no_name_parameter(self):
        self.assertIs(is_body(("want", "$n", A, B), ["$n"]), False)
        self.assertIs(is_body(("want", "n", A, ("name", "$n")), ["$n"]), True)

    def test_operators_and_called_names_are_no_parameters(self):
        self.assertIs(is_body(("op", "$n", (A,)), ["$n"]), False)
        self.assertIs(is_body(("call", "$n", (A,)), ["$n"]), False)

    def test_list_and_tuple(self):
        for parameters in (["?h", "$n"], ("?h", "$n")):
            self.assertIs(is_body(("let", "$n", ("hole", "h"), A), parameters), True)
            self.assertIs(is_body(("let", "$m", ("hole", "h"), A), parameters), False)
        self.assertIs(is_body(("hole", "h"), ()), False)

    def test_parameters_are_not_changed(self):
        parameters = ["?h", "$n"]
        is_body(("let", "$n", ("hole", "h"), A), parameters)
        self.assertEqual(parameters, ["?h", "$n"])

    def test_arguments_have_the_same_parameters(self):
        call = ("call", "t", (A, ("call", "u", (("hole", "h"), ("name", "$n")))))
        self.assertIs(is_body(call, ["?h", "$n"]), True)
        self.assertIs(is_body(call, ["?h"]), False)
        self.assertIs(is_body(call, ["$n"]), False)


class Limits(unittest.TestCase):
    def check(self, value, expected):
        """Whether value is a term, a program and a body."""
        self.assertIs(is_term(value), expected)
        self.assertIs(is_program(value), expected)
        self.assertIs(is_body(value, ["?h"]), expected)

    def test_sizes(self):
        for parts, expected in [(399, True), (400, True), (401, False), (420, False)]:
            self.check(wide(parts), expected)

    def test_depths(self):
        for levels, expected in [(59, True), (60, True), (61, False), (70, False)]:
            self.check(chain(levels), expected)

    def test_both(self):
        self.check(wide_and_deep(400, 60), True)
        self.check(wide_and_deep(401, 60), False)
        self.check(wide_and_deep(400, 61), False)

    def test_depth_in_each_place(self):
        for levels, expected in [(59, True), (60, False)]:
            for around in all_around(chain(levels)):
                self.check(around, expected)
            for around in call_and_want_around(chain(levels)):
                self.assertIs(is_body(around, []), expected)

    def test_arguments_count(self):
        for parts, expected in [(398, True), (399, False)]:
            self.assertIs(is_program(("call", "t", (A, wide(parts)))), expected)
            self.assertIs(is_body(("want", "x", wide(parts), A), []), expected)

    def test_a_part_in_many_places_counts_as_often(self):
        value = A
        for _ in range(8):
            value = ("op", "f", (value, value))
        self.check(value[2][0], True)
        self.check(value, False)
        for _ in range(50):
            value = ("op", "f", (value, value, value))
        self.check(value, False)


if __name__ == "__main__":
    unittest.main()
