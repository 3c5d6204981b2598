"""Tests of patterns: promises 4, 7, 8 and 91."""

import inspect
import itertools

from caughtnames import comparisons as module
from caughtnames.booktexts import read_template
from caughtnames.comparisons import patterns
from caughtnames.errors import InvalidChoice, InvalidTemplate
from caughtnames.templates import Template
from caughtnames.words import is_name
from checks import Checks
from samples import values_of_every_kind

A = ("name", "a")
NONE = Template("t", ["?h"], A)
ONE = Template("t", ["?h", "$n"], A)
TWO = Template("t", ["$n", "?n", "$m"], A)


def form_of(choice, names):
    """What is equal for choices that arise from one another by other names for those that are not listed."""
    new = []
    row = []
    for key in sorted(choice):
        if choice[key] not in names and choice[key] not in new:
            new.append(choice[key])
        row.append(choice[key] if choice[key] in names else new.index(choice[key]))
    return tuple(row)


class Patterns(Checks):
    def test_signature(self):
        self.check_signatures(module, ["patterns(template, names)"])
        self.assertTrue(inspect.isgeneratorfunction(patterns))

    def test_example_of_the_document(self):
        found = [len(list(patterns(Template("t", ["$m", "$n"], ("name", "x")), ["x"]))),
                 list(patterns(Template("s", ["?h"], ("name", "x")), ["x"]))]
        self.assertEqual(found, [5, [{}]])

    def test_arguments_by_name(self):
        self.assertEqual(len(list(patterns(names=["x"], template=ONE))), 2)

    def check_patterns(self, template, names):
        found = list(patterns(template, names))
        for choice in found:
            self.assertEqual(set(choice), set(template.choices()))
            self.assertTrue(all(is_name(name) for name in choice.values()))
        forms = [form_of(choice, names) for choice in found]
        self.assertEqual(len(set(forms)), len(forms))
        # Each choice with the names and as many others has one of these forms.
        others = [name for name in ("qa", "qb") if name not in names]
        pool = sorted(set(names)) + others
        every = {form_of(dict(zip(template.choices(), row)), names)
                 for row in itertools.product(pool, repeat=len(template.choices()))}
        self.assertEqual(set(forms), every)
        return len(found)

    def test_each_choice_arises_from_exactly_one(self):
        for names in [[], ["x"], ["x", "y"], ["x", "x"], ["y", "x", "y", "x"], ["a", "b", "c", "d"],
                list("abcdefghijklm")]:
            many = len(set(names))
            found = [self.check_patterns(template, names) for template in (NONE, ONE, TWO)]
            self.assertEqual(found, [1, many + 1, many * many + 2 * many + 2])

    def test_names_of_each_letter(self):
        names = [letter for letter in "abcdefghijklmnopqrstuvwxyz"] + ["aa", "ab"]
        self.assertEqual(self.check_patterns(TWO, names), 28 * 28 + 2 * 28 + 2)

    def test_two_hundred_names(self):
        names = [first + second for first in "abcdefgh" for second in "abcdefghijklmnopqrstuvwxy"]
        self.assertEqual(len(names), 200)
        self.assertEqual(len(list(patterns(ONE, names))), 201)
        self.assertEqual(sum(1 for _ in patterns(TWO, names)), 200 * 200 + 400 + 2)

    def test_tuples_and_lists(self):
        names = ["x", "y"]
        self.assertEqual(list(patterns(TWO, tuple(names))), list(patterns(TWO, names)))
        self.assertEqual(names, ["x", "y"])

    def test_dicts_are_new(self):
        told = patterns(TWO, ["x"])
        rows = []
        for choice in told:
            rows.append(dict(choice))
            choice.clear()
        self.assertEqual(rows, list(patterns(TWO, ["x"])))

    def test_the_list_may_be_changed_meanwhile(self):
        names = ["x", "y"]
        told = patterns(ONE, names)
        rows = [next(told)]
        names.clear()
        self.assertEqual(len(rows + list(told)), 3)


class Errors(Checks):
    def test_values_that_are_no_templates(self):
        for value in values_of_every_kind():
            if not isinstance(value, Template):
                for names in ([], None, ["let"]):
                    told = patterns(value, names)
                    self.check_raises(InvalidTemplate, "value", value, lambda: next(told))

    def test_values_that_are_no_lists_of_names(self):
        for value in values_of_every_kind() + [["x", "let"], ["$n"], ["x", None], ["toolong"], {"x": "y"}, "xy",
                [["x"]], [True]]:
            if value not in ([], (), A, list(A)):
                for template in (NONE, ONE, read_template("t() = c()")):
                    told = patterns(template, value)
                    self.check_raises(InvalidChoice, "value", value, lambda: next(told))

    def test_nothing_is_raised_ahead_of_the_first_item(self):
        self.assertTrue(inspect.isgenerator(patterns(None, None)))


if __name__ == "__main__":
    import unittest
    unittest.main()
