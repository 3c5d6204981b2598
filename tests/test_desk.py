"""Tests of Desk: promises 5, 7, 8, 121, 122 and 123."""

from caughtnames.books import Book
from caughtnames.booktexts import book_text, read_book, read_template
from caughtnames.desk import Desk
from caughtnames.errors import (
    CaughtError, InvalidBook, InvalidCall, InvalidLine, InvalidLines, InvalidProgram, InvalidTemplate, NothingToRedo,
    NothingToUndo,
    StillCalled, TooLarge, UnknownTemplate, UnlikeParameters)
from caughtnames.renames import fewest_renames
from caughtnames.tables import table_of
from caughtnames.termtexts import read_term, term_text
from chance import book_and_program
from checks import Checks
from samples import chain, values_of_every_kind, wide

A = ("name", "a")
C = ("op", "c", ())
SWAP = "swap(?a, ?b) = let t = ?a in pair(?b, t)"
PROGRAM = "let t = one() in !swap(two(), t)"
TWO = "two(?h) = f(?h, ?h)"


def state(desk):
    """All that a desk holds."""
    other = desk.copied()
    rows = [(book_text(other.book), term_text(other.program))]
    steps = [0, 0]
    for at, step in enumerate((other.undo, desk.copied().redo)):
        current = step.__self__
        try:
            while True:
                step()
                steps[at] += 1
                rows.append((book_text(current.book), term_text(current.program)))
        except (NothingToUndo, NothingToRedo):
            pass
    return steps, rows


def desk_with(*lines):
    desk = Desk()
    for line in lines:
        desk.run(line)
    return desk


class Interface(Checks):
    def test_signatures(self):
        self.check_methods(Desk, [
            "__init__(self)", "define(self, template)", "drop(self, name)", "write(self, program)", "undo(self)",
            "redo(self)",
            "copied(self)", "__eq__(self, other)", "run(self, line)", "run_all(self, lines)"])
        self.assertEqual(Desk.__module__, "caughtnames.desk")

    def test_arguments_by_name(self):
        desk = Desk()
        self.assertIsNone(desk.define(template=read_template(SWAP)))
        self.assertIsNone(desk.write(program=A))
        self.assertIsNone(desk.drop(name="swap"))
        self.assertEqual([desk.undo(), desk.redo()], [None, None])
        self.assertEqual([desk.run(line="text"), desk.run_all(lines=["text"])], ["a", ["a"]])


class Edits(Checks):
    def test_at_first(self):
        desk = Desk()
        self.assertEqual([desk.book, desk.program, state(desk)], [Book(), C, ([0, 0], [("", "c()")])])
        self.assertIsInstance(desk.book, Book)

    def test_define_write_and_drop(self):
        desk = Desk()
        desk.define(read_template(SWAP))
        self.assertEqual([desk.book, desk.program], [read_book(SWAP), C])
        desk.write(read_term(PROGRAM))
        self.assertEqual([desk.book, desk.program], [read_book(SWAP), read_term(PROGRAM)])
        desk.define(read_template("swap(?a, ?b) = f(?b, ?a)"))
        desk.define(read_template(TWO))
        self.assertEqual(book_text(desk.book), "swap(?a, ?b) = f(?b, ?a)\n" + TWO)
        desk.write(A)
        desk.drop("swap")
        self.assertEqual([desk.book, desk.program], [read_book(TWO), A])
        self.assertEqual(state(desk)[0], [6, 0])

    def test_edits_that_change_nothing(self):
        desk = desk_with("template " + SWAP, "program a", "undo")
        kept = state(desk)
        self.assertEqual(kept[0], [1, 1])
        for step in (lambda: desk.define(read_template(SWAP)), lambda: desk.write(C), lambda: desk.run("program c()"),
                     lambda: desk.run("template " + SWAP), lambda: desk.run_all(["program a", "program c()"]),
                     lambda: desk.run("text")):
            step()
            self.assertEqual(state(desk), kept)
        desk.redo()
        self.assertEqual(desk.program, A)

    def test_what_a_book_refuses(self):
        desk = desk_with("template " + TWO, "template t(?h) = !two(?h)", "program !t(a)", "undo")
        kept = state(desk)
        for value in values_of_every_kind():
            if value.__class__.__name__ != "Template":
                self.check_raises(InvalidTemplate, "value", value, lambda: desk.define(value))
            if value != "t":
                self.check_raises(UnknownTemplate, "name", value, lambda: desk.drop(value))
        self.check_name(StillCalled, "t", lambda: desk.drop("two"))
        self.check_name(UnknownTemplate, "gone", lambda: desk.define(read_template("u() = !gone()")))
        template = read_template("u() = !t(!two())")
        self.check_raises(InvalidCall, "value", template.body[2][0], lambda: desk.define(template))
        template = read_template("two(?h, ?k) = ?h")
        self.check_raises(InvalidCall, "value", desk.book["t"].body, lambda: desk.define(template))
        self.assertEqual(state(desk), kept)
        full = desk_with(*[f"template t{letter}() = c()" for letter in "abcde"])
        with self.assertRaises(InvalidBook) as caught:
            full.define(read_template("more() = c()"))
        self.assertEqual([template.name for template in caught.exception.value], ["ta", "tb", "tc", "td", "te", "more"])
        full.define(read_template("tc() = d()"))

    def test_what_expand_refuses(self):
        desk = desk_with("template " + TWO, "program !two(a)")
        kept = state(desk)
        for value in [None, "a", ["name", "a"], ("hole", "h"), ("want", "x", A, A), chain(61), wide(401),
                ("name", "$n")]:
            self.check_raises(InvalidProgram, "value", value, lambda: desk.write(value))
        self.check_name(UnknownTemplate, "gone", lambda: desk.write(read_term("f(!gone(), !two())")))
        program = read_term("!two(!two())")
        self.check_raises(InvalidCall, "value", program[2][0], lambda: desk.write(program))
        self.check_name(TooLarge, 401, lambda: desk.write(("call", "two", (wide(200),))))
        self.check_name(TooLarge, 2 ** 31 - 1, lambda: desk.write(read_term("!two(" * 30 + "a" + ")" * 30)))
        self.check_name(UnknownTemplate, "two", lambda: desk.drop("two"))
        self.check_raises(InvalidCall, "value", desk.program, lambda: desk.define(read_template("two() = c()")))
        self.assertEqual(state(desk), kept)

    def test_books_with_which_the_program_is_too_large(self):
        desk = desk_with("template " + TWO, "program " + "!two(" * 7 + "a" + ")" * 7)
        kept = state(desk)
        self.check_name(TooLarge, (3 ** 8 - 1) // 2, lambda: desk.define(read_template("two(?h) = f(?h, ?h, ?h)")))
        desk = desk_with("template two(?h) = f(?h)", "program " + "!two(" * 29 + "a" + ")" * 29)
        self.check_name(TooLarge, 29 * 3 + 1, lambda: desk.define(read_template("two(?h) = f(f(?h))")))
        self.assertEqual(state(desk_with("template " + TWO, "program " + "!two(" * 7 + "a" + ")" * 7)), kept)
        desk.define(read_template("two(?h) = ?h"))
        self.assertEqual(desk.run("text"), "a")


class UndoAndRedo(Checks):
    def test_in_turns(self):
        desk = Desk()
        self.check_empty(desk)
        for text in ("a", "b", "d"):
            desk.write(read_term(text))
        found = []
        for step in (desk.undo, desk.undo, desk.redo, desk.undo, desk.undo, desk.redo, desk.redo, desk.redo):
            step()
            found.append(term_text(desk.program))
        self.assertEqual(found, ["b", "a", "b", "a", "c()", "a", "b", "d"])
        with self.assertRaises(NothingToRedo):
            desk.redo()
        self.assertEqual(state(desk)[0], [3, 0])

    def check_empty(self, desk):
        for step, error in ((desk.undo, NothingToUndo), (desk.redo, NothingToRedo)):
            with self.assertRaises(error):
                step()

    def test_behind_a_new_edit(self):
        desk = desk_with("program a", "program b", "undo", "program d")
        with self.assertRaises(NothingToRedo):
            desk.redo()
        desk.undo()
        self.assertEqual(desk.program, A)
        desk.redo()
        self.assertEqual(term_text(desk.program), "d")

    def test_books_and_programs_together(self):
        desk = desk_with("template " + SWAP, "program " + PROGRAM, "program a", "drop swap")
        for step in (desk.undo, desk.undo, desk.undo):
            step()
        self.assertEqual([book_text(desk.book), term_text(desk.program)], [SWAP, "c()"])
        for step in (desk.redo, desk.redo, desk.redo):
            step()
        self.assertEqual([desk.book, desk.program], [Book(), A])

    def test_two_hundred_edits(self):
        desk = Desk()
        for at in range(200):
            desk.write(("op", "f", (("name", "ab"[at % 2]),)))
        for _ in range(200):
            desk.undo()
        self.check_state(desk, [0, 200])

    def check_state(self, desk, steps):
        self.assertEqual(state(desk)[0], steps)


class Copies(Checks):
    def test_copies_go_their_own_way(self):
        desk = desk_with("program a", "program b", "undo")
        other = desk.copied()
        self.assertIsInstance(other, Desk)
        self.assertEqual(state(other), state(desk))
        kept = state(desk)
        other.undo()
        other.write(read_term("d"))
        other.define(read_template(SWAP))
        self.assertEqual(state(desk), kept)
        self.assertEqual(state(other)[0], [2, 0])
        kept = state(other)
        desk.redo()
        desk.write(read_term("e"))
        self.assertEqual(state(other), kept)

    def test_equality(self):
        desk = desk_with("template " + SWAP, "program a")
        self.assertEqual(desk, desk_with("program a", "template " + SWAP))
        self.assertEqual(desk, desk.copied())
        self.assertEqual(Desk(), desk_with("program a", "undo"))
        self.assertFalse(desk != desk.copied())
        for other in [Desk(), desk_with("program a"), desk_with("template " + SWAP),
                desk_with("template " + SWAP, "program b")]:
            self.assertNotEqual(desk, other)
            self.assertFalse(desk == other)
        for value in values_of_every_kind() + [Desk, (desk.book, desk.program)]:
            self.assertFalse(desk == value)
            self.assertTrue(desk != value)


class Run(Checks):
    def test_example_of_the_document(self):
        desk = Desk()
        found = desk.run_all(["template " + SWAP, "program " + PROGRAM, "catches", "renamed", "table swap"])
        self.assertEqual(found, ["ok", "ok", "0 1 0", "1", "hole a ; hole b own t ; use t own t = 0"])
        self.assertEqual([desk.run("undo"), desk.run("book"), desk.run("text")], ["ok", "none", "c()"])

    def test_commands(self):
        desk = Desk()
        for line, answer in [
            ("book", "none"), ("text", "c()"), ("catches", "none"), ("renamed", "0"), ("template " + SWAP, "ok"),
            ("book", SWAP),
            ("template loop($m, ?h) = each $m of all: f($m, ?h, k)", "ok"),
            ("table swap", "hole a ; hole b own t ; use t own t = 0"),
            ("table loop", "use all ; choice m given m ; hole h given m ; use k given m"), ("some swap", "caught"),
            ("some loop", "caught"),
            ("template nil() = c()", "ok"), ("table nil", "none"), ("some nil", "clean"), ("alike nil nil", "alike"),
            ("alike swap swap", "alike"),
            ("template spaw(?a, ?b) = let u = ?a in pair(?b, u)", "ok"), ("alike swap spaw", "unlike"),
            ("alike spaw swap", "unlike"),
            ("book", SWAP + " ; loop($m, ?h) = each $m of all: f($m, ?h, k) ; nil() = c() ; spaw(?a, ?b) = let u = ?a in pair(?b, u)"),
            ("program " + PROGRAM, "ok"), ("text", "let t = one() in let t = two() in pair(t, t)"),
            ("catches", "0 1 0"), ("renamed", "1"),
            ("program !swap(two(), f(t, t))", "ok"), ("catches", "0 0 - ; 1 0 -"), ("renamed", "1"), ("undo", "ok"),
            ("catches", "0 1 0"),
            ("redo", "ok"), ("catches", "0 0 - ; 1 0 -"), ("program let k = a in !loop(x, k)", "ok"),
            ("catches", "4 0 -"),
            ("program !nil()", "ok"), ("text", "c()"), ("drop swap", "ok"), ("drop loop", "ok"), ("undo", "ok"),
            ("redo", "ok"),
            ("template want() = c()", None), ("drop spaw", "ok"), ("book", "nil() = c()"),
            ("template both($m, $n) = want x = $n in each $m of x: let $n = x in f($m, $n, x)", "ok"),
            ("table both", "choice n ; use x wanted x = 0 ; use x wanted x given m = 0 ; choice m wanted x given m given n ; "
             "choice n wanted x given m given n ; use x wanted x given m given n = 0"),
            ("template t($m) = !both(y, $m)", "ok"),
            ("table t", "choice m ; use x own x = 0 ; use x own x own y = 0 ; use y own x own y given m = 1 ; "
             "choice m own x own y given m ; use x own x own y given m = 0"),
            ("alike nil both", UnlikeParameters), ("some t", "caught"),
        ]:
            if answer is None:
                self.check_raises(InvalidLine, "value", line, lambda: desk.run(line))
            elif answer == UnlikeParameters:
                self.check_name(UnlikeParameters, "both", lambda: desk.run(line))
            else:
                self.assertEqual(desk.run(line), answer, line)

    def test_answers_by_chance(self):
        for seed in range(150):
            book, program = book_and_program(seed)
            desk = Desk()
            try:
                desk.run_all(["template " + line for line in book_text(book).split("\n")] + ["program " + term_text(program)])
            except TooLarge:
                continue
            self.assertEqual([desk.book, desk.program], [book, program])
            self.assertEqual(desk.run("book"), book_text(book).replace("\n", " ; "))
            self.assertEqual(desk.run("renamed"), str(len(fewest_renames(book, program)[0])))
            for name in book.names():
                try:
                    rows = table_of(book, name).rows()
                except TooLarge as error:
                    self.check_name(TooLarge, error.count, lambda: desk.run("table " + name))
                    continue
                texts = [
                    " ".join([what, who, *[word for pair in above for word in pair],
                     *([] if meant is None else ["=", str(meant)])])
                    for what, who, above, meant in rows]
                self.assertEqual(desk.run("table " + name), " ; ".join(texts) or "none")

    def test_lines_that_are_none(self):
        desk = desk_with("template " + SWAP, "program a", "program b", "undo")
        kept = state(desk)
        for line in values_of_every_kind() + [
            "", " ", "text ", " text", "text  ", "text text", "Text", "texts", "text\n", "\ntext", "book book",
            "book ", "undo 1", "undo ", "redo redo",
            "redo\n", "catches a", " catches", "renamed a", "renamed 1", "table", "table ", "table a b",
            "table  swap", "table swap ", "some", "some a b",
            "some  a", "alike", "alike a", "alike a b c", "alike a  b", "alike a b ", "drop", "drop ", "drop a b",
            "drop  swap", "drop\nswap",
            "template", "template ", "template swap", "template  " + SWAP, "template " + SWAP + " ",
            "template " + SWAP.replace(" ", "  ", 1),
            "template " + SWAP + "\n", "template t() = f(a,b)", "template t() =  a", "template t() = ?h",
            "template let() = a", "template a",
            "template t(?h, ?h) = a", "template $t() = a", "Template " + SWAP, SWAP,
            "template t(?a) = let ?a = b in c()", "template t()",
            "program", "program ", "program  a", "program a ", "program a b", "program f(a,b)", "program ?h",
            "program $n", "program want x = a in x",
            "program f(?h)", "program !t($n)", "program let let = a in b", "program\na", "program a\n",
            "program " + "f(" * 60 + "a" + ")" * 60,
            "program let x = a in\nx", "programs a", ["text"], ("text",), b"text", "undo;", "none", "ok", "cleans",
        ]:
            self.check_raises(InvalidLine, "value", line, lambda: desk.run(line))
        self.assertEqual(state(desk), kept)

    def test_what_the_functions_raise(self):
        desk = desk_with("template " + TWO, "template many(?h) = " + "!two(" * 9 + "?h" + ")" * 9,
            "template no(?k) = ?k")
        kept = state(desk)
        for line, error, value in [
            ("table gone", UnknownTemplate, "gone"), ("table 1", UnknownTemplate, "1"),
            ("table $n", UnknownTemplate, "$n"), ("some gone", UnknownTemplate, "gone"),
            ("drop gone", UnknownTemplate, "gone"), ("drop two", StillCalled, "many"),
            ("alike gone goner", UnknownTemplate, "gone"),
            ("alike two gone", UnknownTemplate, "gone"), ("alike two no", UnlikeParameters, "no"),
            ("table many", TooLarge, 1023), ("some many", TooLarge, 1023),
            ("alike two many", TooLarge, 1023), ("program !gone()", UnknownTemplate, "gone"),
            ("program !many(a)", TooLarge, 1023),
            ("template t() = !gone()", UnknownTemplate, "gone"), ("drop template", UnknownTemplate, "template"),
        ]:
            self.check_name(error, value, lambda: desk.run(line))
        for line, error in [("redo", NothingToRedo), ("program !two()", InvalidCall),
                ("template t() = !two(a, b)", InvalidCall)]:
            with self.assertRaises(error):
                desk.run(line)
        self.assertEqual(state(desk), kept)
        with self.assertRaises(NothingToUndo):
            Desk().run("undo")


class RunAll(Checks):
    def test_none_forty_and_forty_one_lines(self):
        desk = Desk()
        self.assertEqual([desk.run_all([]), desk.run_all(()), desk.run_all(["text"] * 40)], [[], [], ["c()"] * 40])
        self.assertEqual(desk.run_all(tuple(["text"] * 40)), ["c()"] * 40)
        lines = ["program a"] + ["text"] * 40
        self.check_raises(InvalidLines, "value", lines, lambda: desk.run_all(lines))
        self.assertEqual(state(desk)[0], [0, 0])

    def test_values_that_are_no_lists(self):
        desk = Desk()
        for value in values_of_every_kind() + ["text", {"text": 1}]:
            if not isinstance(value, (list, tuple)):
                self.check_raises(InvalidLines, "value", value, lambda: desk.run_all(value))

    def test_items_that_are_no_lines(self):
        desk = desk_with("program a", "undo")
        kept = state(desk)
        for value in values_of_every_kind() + ["text ", desk, Desk]:
            self.check_raises(InvalidLine, "value", value, lambda: desk.run_all(["program b", value, "undo"]))
            self.assertEqual(state(desk), kept)

    def test_all_edits_of_one_call_are_one(self):
        desk = desk_with("program a")
        self.assertEqual(desk.run_all(["template " + SWAP, "program " + PROGRAM, "text", "drop swap"][:3]),
            ["ok", "ok", "let t = one() in let t = two() in pair(t, t)"])
        self.assertEqual(state(desk)[0], [2, 0])
        desk.undo()
        self.assertEqual([desk.book, desk.program], [Book(), A])
        desk.redo()
        self.assertEqual([desk.book, desk.program], [read_book(SWAP), read_term(PROGRAM)])
        desk.undo()
        desk.run_all(["program b", "program d"])
        self.assertEqual(state(desk)[0], [2, 0])

    def test_lines_that_leave_all_as_it_was(self):
        desk = desk_with("program a", "program b", "undo")
        kept = state(desk)
        for lines in [[], ["text", "book"], ["program a"], ["program b", "program a"],
                ["template " + SWAP, "drop swap"],
                      ["program d", "template " + SWAP, "program a", "drop swap", "text"]]:
            desk.run_all(lines)
            self.assertEqual(state(desk), kept, lines)
        desk.redo()

    def test_a_refused_line_in_the_middle(self):
        desk = desk_with("template " + SWAP, "program a", "program b", "undo")
        kept = state(desk)
        for lines, error in [
            (["program d", "texts", "program e"], InvalidLine), (["program d", "drop gone"], UnknownTemplate),
            (["drop swap", "redo", "redo"], NothingToRedo),
            (["undo", "undo", "undo", "undo"], NothingToUndo), (["redo", "program !gone()"], UnknownTemplate),
            (["undo", "program f(", "redo"], InvalidLine),
            (["template " + TWO, "program " + "!two(" * 9 + "a" + ")" * 9], TooLarge), (["text", None], InvalidLine),
            (["program !swap(a, b)", "drop swap"], UnknownTemplate), (["drop swap", "program !swap(a, b)"],
             UnknownTemplate),
        ]:
            with self.assertRaises(error):
                desk.run_all(lines)
            self.assertEqual(state(desk), kept, lines)
            self.assertEqual([book_text(desk.book), term_text(desk.program)], [SWAP, "a"])
        line = ["text"]
        self.check_raises(InvalidLine, "value", line, lambda: desk.run_all(["program d", line]))

    def test_undo_and_redo_among_the_lines(self):
        for lines in [
            ["undo"], ["undo", "redo"], ["redo"], ["program d", "undo"], ["program d", "undo", "redo"],
            ["undo", "program d", "program e"],
            ["program d", "program e", "undo", "undo", "text"], ["undo", "undo", "redo", "book", "program e"],
            ["program e", "program d", "program a", "undo", "redo"],
        ]:
            for more in ([], ["undo"]):
                one, other = [desk_with("program a", "program b", "program e", "undo", *more) for _ in range(2)]
                try:
                    found = [other.run(line) for line in lines]
                except NothingToUndo:
                    continue
                self.assertEqual(one.run_all(lines), found)
                self.assertEqual(state(one), state(other), lines)

    def test_words_that_are_not_the_commands_undo_and_redo(self):
        desk = desk_with("template undo() = c()", "template redo() = c()")
        desk.run_all(["table undo", "program !undo()", "alike undo redo", "program undo"])
        self.assertEqual(state(desk)[0], [3, 0])

    def test_lists_are_not_changed_and_new(self):
        desk, lines = Desk(), ["program a", "text"]
        first = desk.run_all(lines)
        self.assertIsInstance(first, list)
        first.clear()
        self.assertEqual([lines, desk.run_all(lines)], [["program a", "text"], ["ok", "a"]])

    def test_errors_are_of_the_bases(self):
        with self.assertRaises(CaughtError):
            Desk().run_all(["no"])


if __name__ == "__main__":
    import unittest
    unittest.main()
