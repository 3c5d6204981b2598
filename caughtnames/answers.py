"""The answers to questions about a book and a program."""

from caughtnames.booktexts import template_text
from caughtnames.catches import catches
from caughtnames.comparisons import alike
from caughtnames.expansion import expand
from caughtnames.renames import fewest_renames
from caughtnames.tables import table_of
from caughtnames.termtexts import term_text
from caughtnames.verdicts import some_catch

BETWEEN_ITEMS = " ; "
# How many names each question has.
NAMES_OF_QUESTIONS = {"text": 0, "book": 0, "catches": 0, "table": 1, "some": 1, "alike": 2, "renamed": 0}


def is_question(words):
    """True if some words are a question."""
    return NAMES_OF_QUESTIONS.get(words[0]) == len(words) - 1


def answer_to(words, book, program):
    """The answer to a question."""
    question, names = words[0], words[1:]
    if question == "text":
        return term_text(expand(book, program))
    if question == "book":
        return joined_items([template_text(book[name]) for name in book.names()])
    if question == "catches":
        return joined_items([catch_text(catch) for catch in catches(book, program)])
    if question == "table":
        return joined_items([row_text(row) for row in table_of(book, names[0]).rows()])
    if question == "some":
        return "clean" if some_catch(book, names[0]) is None else "caught"
    if question == "alike":
        return "alike" if alike(book, names[0], names[1]) is None else "unlike"
    return str(len(fewest_renames(book, program)[0]))


def joined_items(items):
    """The text of a list of items."""
    return BETWEEN_ITEMS.join(items) if items else "none"


def catch_text(catch):
    """The text of a catch."""
    return " ".join(["-" if number is None else str(number) for number in catch])


def row_text(row):
    """The text of a row of a table."""
    what, who, above, meant = row
    words = [what, who]
    for kind, name in above:
        words.extend([kind, name])
    if meant is not None:
        words.extend(["=", str(meant)])
    return " ".join(words)
