"""A desk: a book and a program that are changed by edits, and commands for them."""

from caughtnames.answers import answer_to, is_question
from caughtnames.books import Book
from caughtnames.booktexts import read_template
from caughtnames.errors import InvalidLine, InvalidLines, InvalidText, NothingToRedo, NothingToUndo
from caughtnames.expansion import need_room
from caughtnames.terms import PLAIN, is_program
from caughtnames.termtexts import read_term
from caughtnames.words import split_words

MOST_LINES = 40


class Desk:
    """A book and a program, with the edits to take back and those to do again."""

    def __init__(self):
        self.book = Book()
        self.program = PLAIN
        self.past = []
        self.future = []

    def __eq__(self, other):
        if not isinstance(other, Desk):
            return False
        return self.book == other.book and self.program == other.program

    def define(self, template):
        """Put a template into the book."""
        self.turn_to(self.book.with_template(template), self.program)

    def drop(self, name):
        """Take the template of a name out of the book."""
        self.turn_to(self.book.without(name), self.program)

    def write(self, program):
        """Put a program in the place of the present one."""
        self.turn_to(self.book, program)

    def undo(self):
        """Take back the last edit."""
        if not self.past:
            raise NothingToUndo()
        self.future.append((self.book, self.program))
        self.book, self.program = self.past.pop()

    def redo(self):
        """Do the edit again that was taken back last."""
        if not self.future:
            raise NothingToRedo()
        self.past.append((self.book, self.program))
        self.book, self.program = self.future.pop()

    def copied(self):
        """Another desk with the same book, program and edits."""
        other = Desk()
        other.take_over(self)
        return other

    def run(self, line):
        """Perform the command of a line, and return its answer."""
        words = split_words(line)
        if words is None:
            raise InvalidLine(line)
        if is_question(words):
            return answer_to(words, self.book, self.program)
        if words[0] == "template":
            self.define(template_of_line(line))
        elif words[0] == "program":
            self.write(program_of_line(line))
        elif words[0] == "drop" and len(words) == 2:
            self.drop(words[1])
        elif words == ["undo"]:
            self.undo()
        elif words == ["redo"]:
            self.redo()
        else:
            raise InvalidLine(line)
        return "ok"

    def run_all(self, lines):
        """Perform the commands of some lines, as one edit, and return their answers."""
        if not isinstance(lines, (list, tuple)) or len(lines) > MOST_LINES:
            raise InvalidLines(lines)
        trial = self.copied()
        answers = [trial.run(line) for line in lines]
        if "undo" in lines or "redo" in lines:
            self.take_over(trial)
        else:
            self.turn_to(trial.book, trial.program)
        return answers

    def turn_to(self, book, program):
        """Do the edit after which these are the book and the program."""
        need_room(book, program)
        if book != self.book or program != self.program:
            self.past.append((self.book, self.program))
            self.future = []
            self.book = book
            self.program = program

    def take_over(self, other):
        """Make this desk like another one, with its edits."""
        self.book = other.book
        self.program = other.program
        self.past = list(other.past)
        self.future = list(other.future)


def template_of_line(line):
    """The template whose text follows the first word of a line."""
    try:
        return read_template(line.partition(" ")[2])
    except InvalidText:
        raise InvalidLine(line) from None


def program_of_line(line):
    """The program whose text follows the first word of a line."""
    try:
        program = read_term(line.partition(" ")[2])
    except InvalidText:
        raise InvalidLine(line) from None
    if not is_program(program):
        raise InvalidLine(line)
    return program
