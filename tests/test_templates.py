"""Tests of Template: promises 5, 7, 8, 51 and 52."""

import inspect
import unittest

from caughtnames import templates
from caughtnames.books import Book
from caughtnames.errors import InvalidBody, InvalidCall, InvalidName, InvalidParameters, InvalidProgram
from caughtnames.templates import Template
from caughtnames.termtexts import read_term
from samples import chain, values_of_every_kind, wide

A = ("name", "a")
B = ("name", "b")
BODY = ("let", "t", ("hole", "a"), ("op", "pair", (("hole", "b"), ("name", "t"))))


class Interface(unittest.TestCase):
    def test_signatures(self):
        for function, signature in [
            (Template.__init__, "(self, name, parameters, body)"), (Template.__call__, "(self, arguments=())"),
            (Template.holes, "(self)"), (Template.choices, "(self)"), (Template.called, "(self)"),
            (Template.__eq__, "(self, other)"),
        ]:
            self.assertEqual(str(inspect.signature(function)), signature)
            self.assertIn(function.__name__, vars(Template))
        self.assertEqual(Template.__module__, "caughtnames.templates")
        self.assertIs(templates.Template, Template)

    def test_arguments_by_name(self):
        template = Template(body=BODY, name="swap", parameters=["?a", "?b"])
        self.assertEqual(template(arguments=[A, B]), ("call", "swap", (A, B)))


class Making(unittest.TestCase):
    def test_attributes(self):
        for parameters, holes, choices, text in [
            ([], [], [], "c()"), (["?a"], ["a"], [], "?a"), (["$a"], [], ["a"], "$a"), (["?a", "$a"], ["a"], ["a"], "c()"),
            (["?c", "?b", "?a"], ["c", "b", "a"], [], "f(?a, ?b, ?c)"), (["$n", "$m"], [], ["n", "m"], "c()"),
            (["$n", "?a", "$m", "?b", "?c"], ["a", "b", "c"], ["n", "m"], "let $n = ?a in !t(?b, $m)"),
            (["?abcdef", "$abcdef"], ["abcdef"], ["abcdef"], "each $abcdef of ?abcdef: want x = a in x"),
        ]:
            for given in (list(parameters), tuple(parameters)):
                body = read_term(text)
                template = Template("t", given, body)
                self.assertEqual([template.name, template.parameters], ["t", tuple(parameters)])
                self.assertIsInstance(template.parameters, tuple)
                self.assertIs(template.body, body)
                self.assertEqual([template.holes(), template.choices()], [holes, choices])
                self.assertEqual(given, parameters if isinstance(given, list) else tuple(parameters))

    def test_the_list_of_parameters_is_copied(self):
        parameters = ["?a", "$n"]
        template = Template("t", parameters, ("hole", "a"))
        parameters.clear()
        self.assertEqual([template.parameters, template.holes(), template.choices()], [("?a", "$n"), ["a"], ["n"]])

    def test_results_are_new_lists(self):
        template = Template("t", ["?a", "$n"], read_term("!u(?a)"))
        for function in (template.holes, template.choices, template.called):
            self.assertIsInstance(function(), list)
            function().clear()
        self.assertEqual([template.holes(), template.choices(), template.called()], [["a"], ["n"], ["u"]])

    def test_called(self):
        for text, called in [
            ("c()", []), ("!u()", ["u"]), ("f(!u(), !v(), !u())", ["u", "v", "u"]), ("!u(!v(!u()), !w())", list("uvuw")),
            ("let x = !b() in !a()", ["b", "a"]), ("each x of !b(!b()): want y = !a() in !t()", ["b", "b", "a", "t"]),
        ]:
            self.assertEqual(Template("t", [], read_term(text)).called(), called)

    def test_largest_bodies(self):
        self.assertEqual(Template("t", [], wide(400)).body, wide(400))
        self.assertEqual(Template("t", [], chain(60)).body, chain(60))


class WrongArguments(unittest.TestCase):
    def check(self, error, value, name, parameters, body):
        with self.assertRaises(error) as caught:
            Template(name, parameters, body)
        self.assertIs(caught.exception.value, value)

    def test_names(self):
        for name in values_of_every_kind() + ["of", "abcdefg", "A", "$n", "?h", "swap "]:
            if name != "a":
                self.check(InvalidName, name, name, [], A)
                self.check(InvalidName, name, name, None, None)

    def test_parameters(self):
        wrong = [
            ["?a", "?b", "?c", "?d"], ["$a", "$b", "$c"], ["?a", "?a"], ["$a", "$a"], ["?a", "$n", "?a"],
            ["a"], ["?a", "a"], ["?"], ["$"], ["?let"], ["?abcdefg"], ["? a"], [None], [["?a"]], [("?a",)], [1], [True],
            [{}], [A], {"?a": 1}, "?a", "?", ("?a", "?a"), A, ("?a", ["?a"]), ["?a", "?b", "?c", "?d", "?e", "?f"],
        ]
        for parameters in wrong + [value for value in values_of_every_kind() if value not in ([], ())]:
            self.check(InvalidParameters, parameters, "t", parameters, A)
            self.check(InvalidParameters, parameters, "t", parameters, None)

    def test_bodies(self):
        for body in [
            ("hole", "b"), ("name", "$a"), ("hole", "n"), ("let", "$m", A, A), ("call", "t", (("name", "$a"),)),
            ("want", "$n", A, A), ("op", "f", [A]), ["name", "a"], ("op", "f", (A,) * 4), ("call", "t", (A,) * 6),
            chain(61), wide(401),
        ]:
            self.check(InvalidBody, body, "t", ["?a", "$n"], body)
        for body in values_of_every_kind():
            if body not in (A, ("call", "t", (A,))):
                self.check(InvalidBody, body, "t", [], body)
        hole = ("hole", "a")
        self.check(InvalidBody, hole, "t", (), hole)
        self.check(InvalidBody, hole, "t", ["$a"], hole)


class Equality(unittest.TestCase):
    def test_equal_templates(self):
        one = Template("t", ["?a", "$n"], ("hole", "a"))
        self.assertTrue(one == Template("t", ("?a", "$n"), ("hole", "a")))
        self.assertFalse(one != Template("t", ("?a", "$n"), ("hole", "a")))
        self.assertTrue(one == one)

    def test_different_templates(self):
        one = Template("t", ["?a", "$n"], ("hole", "a"))
        for other in [
            Template("u", ["?a", "$n"], ("hole", "a")), Template("t", ["$n", "?a"], ("hole", "a")),
            Template("t", ["?a"], ("hole", "a")), Template("t", ["?a", "$n"], ("name", "a")),
            Template("t", ["?a", "$n"], ("op", "f", (("hole", "a"),))),
        ]:
            self.assertFalse(one == other)
            self.assertTrue(one != other)

    def test_other_values(self):
        one = Template("t", [], A)
        for other in values_of_every_kind() + [("t", (), A), Book([one]), [one]]:
            if not isinstance(other, Template):
                self.assertFalse(one == other)
                self.assertTrue(one != other)


class Calling(unittest.TestCase):
    def check(self, error, value, parameters, arguments):
        with self.assertRaises(error) as caught:
            Template("t", parameters, A)(arguments)
        self.assertIs(caught.exception.value, value)

    def test_calls(self):
        call = read_term("!u(x, let y = a in !v())")
        for parameters, arguments, row in [
            ([], [], ()), (["?a"], [A], (A,)), (["?a", "?b"], [A, call], (A, call)), (["$n"], ["x"], (("name", "x"),)),
            (["$n", "?a", "$m"], ["x", call, "abcdef"], (("name", "x"), call, ("name", "abcdef"))),
            (["?a", "$n", "?b", "?c", "$m"], [A, "a", B, A, "a"], (A, A, B, A, A)),
            (["?a"], [wide(400)], (wide(400),)),
        ]:
            for given in (list(arguments), tuple(arguments)):
                self.assertEqual(Template("t", parameters, A)(given), ("call", "t", row))
        self.assertEqual(Template("t", [], A)(), ("call", "t", ()))

    def test_no_lists_of_as_many_items(self):
        for parameters in [[], ["?a"], ["$n"], ["?a", "$n"]]:
            for arguments in values_of_every_kind() + [[A] * 3, ["a"] * 3, {"a": A}]:
                if not isinstance(arguments, (list, tuple)) or len(arguments) != len(parameters):
                    self.check(InvalidCall, arguments, parameters, arguments)
        with self.assertRaises(InvalidCall) as caught:
            Template("t", ["?a"], A)()
        self.assertEqual(caught.exception.value, ())

    def test_items_that_are_no_programs(self):
        for item in [
            ("hole", "a"), ("name", "$n"), ("want", "x", A, A), ["name", "a"], ("op", "f", [A]),
            ("call", "t", (("hole", "a"),)), chain(61), wide(401), "a", None, 1, [], (), Template("t", [], A),
        ]:
            self.check(InvalidProgram, item, ["?a"], [item])
            self.check(InvalidProgram, item, ["$n", "?a", "?b"], ["a", item, None])

    def test_items_that_are_no_names(self):
        for item in ["let", "abcdefg", "", "A", "$n", "?a", 1, None, True, A, ["a"], ("a",), Template("t", [], A)]:
            self.check(InvalidName, item, ["$n"], [item])
            self.check(InvalidName, item, ["?a", "$n", "$m"], [A, item, None])

    def test_the_first_wrong_item(self):
        first, second = ["x"], ["y"]
        self.check(InvalidName, first, ["$n", "?a"], [first, second])
        self.check(InvalidProgram, first, ["?a", "$n"], [first, second])
        self.check(InvalidProgram, second, ["?a", "?b", "$n"], [A, second, first])
        self.check(InvalidName, second, ["?a", "$n", "?b"], [A, second, first])

    def test_nothing_is_changed(self):
        template, arguments = Template("t", ["?a", "$n"], ("hole", "a")), [A, "x"]
        template(arguments)
        self.assertEqual(arguments, [A, "x"])
        self.assertEqual(template, Template("t", ["?a", "$n"], ("hole", "a")))


if __name__ == "__main__":
    unittest.main()
