"""Tests of fewest_renames, renamed and shows_fewest: promises 4, 5, 7, 8, 9 and 101 to 104."""

import itertools

from caughtnames import renames as module
from caughtnames.books import Book
from caughtnames.booktexts import book_text, read_book
from caughtnames.catches import catches, meant_scopes
from caughtnames.errors import InvalidBook, InvalidChoice, TooLarge, UnknownBinder
from caughtnames.expansion import expand
from caughtnames.renames import fewest_renames, renamed, shows_fewest
from caughtnames.scopes import scopes
from caughtnames.terms import binders, uses
from caughtnames.termtexts import read_term, term_text
from chance import book_and_program
from checks import Checks
from references import innermost, marked, marked_leaves
from samples import values_of_every_kind

SWAP = "swap(?a, ?b) = let t = ?a in pair(?b, t)"
PROGRAM = "let t = one() in !swap(two(), t)"
# Each hole of the template stands below a binder of x of its own.
WRAP = "wrap(?h) = let x = k() in f(x, ?h)\nstep(?h) = let x = k() in ?h"


def forced_and_clashes(book, program):
    """The forced binders of a program, and the pairs of binders that clash."""
    forced, pairs = set(), set()
    for (_, (name, writer)), above in marked_leaves(marked(book, program)):
        meant = innermost(above, name, writer)
        for binder in above[0 if meant is None else meant + 1:]:
            if binder[2] == name:
                if meant is None:
                    forced.add(binder[0])
                else:
                    pairs.add((above[meant][0], binder[0]))
    return forced, pairs


def undoes(numbers, forced, pairs):
    return forced <= set(numbers) and all(set(pair) & set(numbers) for pair in pairs)


class Interface(Checks):
    def test_signatures(self):
        self.check_signatures(module, [
            "fewest_renames(book, program)", "renamed(book, program, numbers=None)",
            "shows_fewest(book, program, thing)"])

    def test_arguments_by_name(self):
        book, program = read_book(SWAP), read_term(PROGRAM)
        found = fewest_renames(program=program, book=book)
        self.assertIs(shows_fewest(thing=found, program=program, book=book), True)
        self.assertEqual(binders(renamed(numbers=[], program=program, book=book)), ["t", "t"])
        self.assertEqual(scopes(renamed(program=program, book=book)), [0, 1])


class Fewest(Checks):
    def check_fewest(self, book, program):
        """Check what is told, and return it."""
        found = fewest_renames(book, program)
        self.assertEqual([found.__class__, [row.__class__ for row in found]], [tuple, [list] * 3])
        numbers, forced, groups = found
        known, pairs = forced_and_clashes(book, program)
        self.assertEqual(forced, sorted(known))
        self.assertEqual(numbers, sorted(set(numbers)))
        self.assertTrue(undoes(numbers, known, pairs))
        members = [number for group in groups for number in group] + forced
        self.assertEqual(len(set(members)), len(members))
        for group in groups:
            self.assertEqual([group, group.__class__], [sorted(group), list])
            self.assertGreater(len(group), 1)
            for pair in itertools.combinations(group, 2):
                self.assertIn(pair, pairs)
        self.assertEqual(len(numbers), len(forced) + sum(len(group) - 1 for group in groups))
        self.assertEqual([number.__class__ for number in numbers + members], [int] * len(numbers + members))
        self.assertIs(shows_fewest(book, program, found), True)
        self.assertEqual(scopes(renamed(book, program)), meant_scopes(book, program))
        return found

    def test_examples_of_the_document(self):
        book, program = read_book(SWAP), read_term(PROGRAM)
        found = [catches(book, program), fewest_renames(book, program)[1:], len(fewest_renames(book, program)[0])]
        self.assertEqual(found, [[(0, 1, 0)], ([], [[0, 1]]), 1])
        self.assertEqual(fewest_renames(book, read_term("!swap(two(), t)")), ([0], [0], []))

    def test_programs(self):
        for book, program, many, forced, sizes in [
            (SWAP, "a", 0, [], []), (SWAP, "let t = one() in !swap(two(), u)", 0, [], []),
            ("", "let x = x in let x = x in x", 0, [], []),
            (WRAP, "!wrap(c())", 0, [], []), (WRAP, "!wrap(x)", 1, [0], []), (WRAP, "!wrap(!wrap(x))", 2, [0, 1], []),
            (WRAP, "let x = a in !wrap(x)", 1, [], [2]), (WRAP, "let x = a in f(!wrap(x), !wrap(x))", 1, [], [2]),
            (WRAP, "f(let x = a in !wrap(x), let x = a in !wrap(x))", 2, [], [2, 2]),
            # In threes, and in chains.
            (WRAP, "let x = a in !step(!step(x))", 1, [], [2]),
            ("cut(?h, ?k) = let x = k() in f(?h, let x = x in x)", "let x = a in !cut(x, x)", 1, [], [2]),
            ("low(?h, ?k) = let x = k() in f(?h, ?k)\nmid(?h) = let x = k() in !low(?h, x)", "let x = a in !mid(x)",
             2, [], [3]),
            ("low(?h, ?k) = let x = k() in f(?h, ?k)\nmid(?h) = let x = k() in !low(?h, y)", "let x = a in !mid(x)",
             1, [], [2]),
            ("low(?h) = let x = k() in ?h\nmid() = let x = k() in !low(x)", "let x = a in f(x, !mid())", 1, [], [2]),
            ("low(?h) = let x = k() in ?h\nmid(?h) = let x = ?h in !low(x)\ntop() = let x = k() in !mid(x)",
             "let x = a in !top()", 1, [], [2]),
            # A forced binder needs no group.
            ("low(?h) = let x = k() in f(?h, y)", "let x = a in !low(f(x, z))", 1, [], [2]),
            ("low(?h, ?k) = let x = k() in f(?h, let x = ?k in z)\nmid() = x", "let x = a in !low(f(x, !mid()), x)",
             2, [0, 1], []),
        ]:
            book, program = read_book(book), read_term(program)
            numbers, found, groups = self.check_fewest(book, program)
            self.assertEqual([len(numbers), found, sorted(len(group) for group in groups)], [many, forced, sizes],
                (book_text(book), term_text(program)))

    def test_as_few_as_any_other_way_finds(self):
        many = 0
        for seed in range(1500):
            book, program = book_and_program(seed, 10)
            try:
                numbers, forced, groups = self.check_fewest(book, program)
            except TooLarge:
                continue
            known, pairs = forced_and_clashes(book, program)
            near = sorted(known | {number for pair in pairs for number in pair})
            many += bool(groups)
            if numbers and len(near) < 15:
                for fewer in itertools.combinations(near, len(numbers) - 1):
                    self.assertFalse(undoes(fewer, known, pairs), book_text(book))
        self.assertGreater(many, 20)

    def test_groups_and_numbers_in_trees(self):
        book = read_book("low(?h, ?k) = let x = k() in f(?h, ?k)\nmid(?h) = let x = k() in f(!low(?h, x), !low(x, ?h), ?h)")
        sizes = []
        for text in ["let x = a in !mid(x)", "let x = a in !mid(!mid(x))",
                "let x = a in f(!mid(!low(x, c())), !mid(!low(x, x)))"]:
            numbers, forced, groups = self.check_fewest(book, read_term(text))
            sizes.append(sorted(len(group) for group in groups))
        self.assertEqual([len(row) > 0 for row in sizes], [True] * 3)
        self.assertIn(3, sizes[0])

    def test_some_forty_binders_that_clash_in_pairs(self):
        book = read_book("step(?h) = let x = k() in ?h")
        row = "let x = a in !step(!step(x))"
        for _ in range(20):
            row = f"f(let x = a in !step(x), {row})"
        numbers, forced, groups = self.check_fewest(book, read_term(row))
        self.assertEqual([len(numbers), forced, len(groups)], [21, [], 21])
        program = read_term("let x = a in " + "!step(" * 25 + "x" + ")" * 25)
        self.assertEqual(self.check_fewest(book, program)[0], [0])

    def test_chains(self):
        book = read_book("step(?h) = let x = k() in ?h")
        program = read_term("let x = a in !step(f(x, " * 14 + "x" + "))" * 14)
        numbers, forced, groups = self.check_fewest(book, program)
        self.assertEqual([len(numbers), forced, groups[::-1]], [14, [], [[2 * at, 2 * at + 1] for at in range(14)]])

    def test_chains_of_five_templates(self):
        book = read_book(
            "ta(?a, ?b, ?c) = let x = k() in f(?a, ?b, ?c)\ntb(?a, ?b) = let x = k() in !ta(?a, ?b, x)\n"
            "tc(?a, ?b) = let x = k() in !tb(f(?a, ?b), x)\ntd(?a) = let x = k() in !tc(?a, x)\nte() = let x = k() in !td(x)")
        numbers, forced, groups = self.check_fewest(book, read_term("let x = a in !te()"))
        self.assertEqual([len(numbers), groups], [4, [[1, 2, 3, 4, 5]]])

    def test_results_are_new(self):
        book, program = read_book(SWAP), read_term(PROGRAM)
        first = fewest_renames(book, program)
        for row in [*first, *first[2]]:
            row.clear()
        self.assertEqual(fewest_renames(book, program)[1:], ([], [[0, 1]]))

    def test_errors(self):
        self.check_book_and_program(fewest_renames)
        self.check_room(fewest_renames)


class Renamed(Checks):
    def check_renamed(self, book, program, numbers):
        """Check the term in which the binders with some numbers are renamed."""
        term, found = expand(book, program), renamed(book, program, numbers)
        numbers = fewest_renames(book, program)[0] if numbers is None else list(numbers)
        new = [binders(found)[number] for number in numbers]
        self.assertEqual(len(set(new)), len(new))
        self.assertEqual(set(new) & set(uses(term) + binders(term)), set())
        names = dict(zip(numbers, new))
        self.assertEqual(binders(found), [names.get(at, name) for at, name in enumerate(binders(term))])
        self.assertEqual(uses(found), [names.get(meant, name) for meant,
            name in zip(meant_scopes(book, program), uses(term))])
        self.assertEqual(blank(found), blank(term))

    def test_none_all_and_no_binders(self):
        for seed in range(400):
            book, program = book_and_program(seed)
            try:
                many = len(binders(expand(book, program)))
            except TooLarge:
                continue
            for numbers in (None, [], list(range(many)), tuple(range(many))[::-1], list(range(0, many, 2))):
                self.check_renamed(book, program, numbers)
            self.assertEqual(scopes(renamed(book, program)), meant_scopes(book, program))
            self.assertEqual(scopes(renamed(book, program, list(range(many)))), meant_scopes(book, program))
            self.assertEqual(renamed(book, program, []), expand(book, program))

    def test_a_set_that_does_not_do(self):
        book, program = read_book(WRAP), read_term("!wrap(!step(x))")
        self.assertEqual(fewest_renames(book, program)[0], [0, 1])
        for numbers in ([0], [1]):
            self.check_renamed(book, program, numbers)
            self.assertNotEqual(scopes(renamed(book, program, numbers)), meant_scopes(book, program))

    def test_values_that_are_no_lists_of_different_integers(self):
        book, program = read_book(SWAP), read_term(PROGRAM)
        for numbers in values_of_every_kind() + [[0, 0], [0, 1, 0], [True], [0, False], ["0"], [None], [[0]], {0: 1},
                "01", (0, 0), [99, 99]]:
            if numbers is not None and numbers not in ([], ()):
                self.check_raises(InvalidChoice, "value", numbers, lambda: renamed(book, program, numbers))

    def test_unknown_binders(self):
        book, program = read_book(SWAP), read_term(PROGRAM)
        for numbers, number in [([2], 2), ([-1], -1), ([0, 5, 9], 5), ([1, 9, 5], 9), ((10 ** 29, 0), 10 ** 29),
                ([0, 1, -2, 2], -2)]:
            self.check_name(UnknownBinder, number, lambda: renamed(book, program, numbers))
        self.check_name(UnknownBinder, 0, lambda: renamed(Book(), ("name", "a"), [0]))
        numbers = [10 ** 25]
        self.check_raises(UnknownBinder, "number", numbers[0], lambda: renamed(book, program, numbers))

    def test_lists_are_not_changed(self):
        numbers = [1, 0]
        renamed(read_book(SWAP), read_term(PROGRAM), numbers)
        self.assertEqual(numbers, [1, 0])

    def test_errors(self):
        self.check_book_and_program(renamed)
        self.check_book_and_program(lambda book, program: renamed(book, program, ["no"]))
        self.check_room(renamed)
        self.check_raises(InvalidBook, "value", None, lambda: renamed(None, None, "no"))


def blank(term):
    """A term without the names of its binders and uses."""
    if term[0] == "name":
        return "name"
    if term[0] == "op":
        return ("op", term[1], [blank(inner) for inner in term[2]])
    return (term[0], blank(term[2]), blank(term[3]))


class ShowsFewest(Checks):
    def check_no(self, book, program, thing):
        self.assertIs(shows_fewest(book, program, thing), False, thing)

    def test_one_thing_otherwise(self):
        book = read_book("low(?h, ?k) = let x = k() in f(?h, ?k)\nmid(?h) = let x = k() in !low(?h, x)\nput(?h) = let z = z in ?h")
        program = read_term("f(let x = a in !mid(x), !put(z), let x = b in !low(x, x))")
        numbers, forced, groups = fewest_renames(book, program)
        self.assertEqual([len(numbers), forced, sorted(groups)], [4, [3], [[0, 1, 2], [4, 5]]])
        self.assertIs(shows_fewest(book, program, (numbers, forced, groups[::-1])), True)
        self.assertIs(shows_fewest(book, program, (sorted({0, 1, 3, 4}), forced, groups)), True)
        self.assertIs(shows_fewest(book, program, ([1, 2, 3, 5], forced, groups)), True)
        for other in [
            [0, 1, 2, 3, 4], [0, 1, 3], [0, 1, 4, 5], [0, 1, 3, 3], [1, 0, 3, 4], [0, 3, 4, 5], (0, 1, 3, 4),
            [0, 1, 3, 4, 9],
            [0, 1, 3, True], [False, 1, 3, 4], ["0", 1, 3, 4], None, [], {0: 1}, [0, 1, 3, 6], [0, 1, 3, -1],
            [[0], 1, 3, 4], "0134",
        ]:
            self.check_no(book, program, (other, forced, groups))
        for other in [[], [3, 3], (3,), [3, 4], [2], ["3"], None, [0, 3], [[3]], 3, [-3]]:
            self.check_no(book, program, (numbers, other, groups))
        for other in [
            [[0, 1, 2]], [[4, 5]], [[0, 1], [4, 5]], [[0, 1, 2, 4, 5]], [[0, 1, 2], [4, 5], [3, 4]],
            ([0, 1, 2], [4, 5]), [[0, 1, 2], (4, 5)],
            [[0, 1, 2], [5, 4]], [[0, 1, 2], [4, 4]], [[0, 1, 2], [4, 5], []], [[0, 1, 2], [4, 5], [6]],
            [[0, 1, 2], [4, 5], [4, 5]],
            [[0, 1, 2], [3, 5]], [[0, 1, 2], [4, 6]], [[0, 1], [1, 2], [4, 5]], [[0, 1, 2], ["4", "5"]],
            [[False, True, 2], [4, 5]], None, {},
            [[0, 1, 2], None], [[0, 1, 2], 4, 5], [], [[]], [[0, 1, 2], [4, 5], [7, 8]], [[0, 1, 2], [2, 4, 5]],
            [[-1, 0, 1], [4, 5]],
        ]:
            self.check_no(book, program, (numbers, forced, other))
        for other in [
            [numbers, forced, groups], (numbers, forced), (numbers, forced, groups, []), (forced, numbers, groups),
            (numbers, groups, forced), (),
        ]:
            self.check_no(book, program, other)

    def test_lengths_that_fit_one_another(self):
        book, program = read_book(WRAP), read_term("let x = a in f(!wrap(x), !wrap(x))")
        self.assertIs(shows_fewest(book, program, ([0], [], [[0, 1]])), True)
        self.assertIs(shows_fewest(book, program, ([0], [], [[0, 2]])), True)
        for thing in [([1, 2], [], [[0, 1], [0, 2]]), ([1, 2], [], [[0, 1, 2]]), ([1], [], [[0, 1]]),
                ([1, 2], [], [[0, 1], [1, 2]]), ([0, 1], [], [[0, 1]])]:
            self.check_no(book, program, thing)

    def test_forced_binders_within_groups(self):
        book = read_book("low(?h, ?k) = let x = k() in f(?h, let x = ?k in z)\nmid() = x")
        program = read_term("let x = a in !low(f(x, !mid()), x)")
        self.assertEqual(forced_and_clashes(book, program), ({0, 1}, {(0, 1)}))
        self.assertIs(shows_fewest(book, program, ([0, 1], [0, 1], [])), True)
        for thing in [([0, 1, 2], [0, 1], [[0, 1]]), ([0, 1], [0], [[0, 1]]), ([0, 1], [], [[0, 1], [1, 2]])]:
            self.check_no(book, program, thing)

    def test_programs_without_catches(self):
        book, program = read_book(SWAP), read_term("let t = a in t")
        self.assertIs(shows_fewest(book, program, ([], [], [])), True)
        for thing in [([0], [], []), ([], [0], []), ([], [], [[]]), ([], [], [[0]]), ((), [], []), ([], [], ()),
                ([], (), []), [[], [], []], ([0], [0], [])]:
            self.check_no(book, program, thing)

    def test_other_values(self):
        book, program = read_book(SWAP), read_term("a")
        for value in values_of_every_kind() + [([1] * 300, [], []), ([], [], [[1, 2]] * 300),
                ([], list(range(300)), [list(range(300))])]:
            self.check_no(book, program, value)

    def test_things_are_not_changed(self):
        book, program = read_book(SWAP), read_term(PROGRAM)
        thing = ([1], [], [[0, 1]])
        shows_fewest(book, program, thing)
        self.assertEqual(thing, ([1], [], [[0, 1]]))

    def test_errors(self):
        self.check_book_and_program(lambda book, program: shows_fewest(book, program, None))
        self.check_room(lambda book, program: shows_fewest(book, program, ([], [], [])))


if __name__ == "__main__":
    import unittest
    unittest.main()
