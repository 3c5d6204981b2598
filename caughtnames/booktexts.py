"""The texts of templates and books."""

from caughtnames.books import Book
from caughtnames.errors import (
    Duplicate, InvalidBody, InvalidBook, InvalidCall, InvalidName, InvalidParameters, InvalidRow, InvalidTemplate,
    InvalidText, UnknownTemplate)
from caughtnames.templates import Template
from caughtnames.termtexts import read_term, term_text

BETWEEN_PARAMETERS = ", "
AHEAD_OF_BODY = ") = "


def template_text(template):
    """The text of a template."""
    if not isinstance(template, Template):
        raise InvalidTemplate(template)
    head = template.name + "(" + BETWEEN_PARAMETERS.join(template.parameters)
    return head + AHEAD_OF_BODY + term_text(template.body)


def book_text(book):
    """The text of a book: those of its templates, one in each line."""
    if not isinstance(book, Book):
        raise InvalidBook(book)
    return "\n".join([template_text(book[name]) for name in book.names()])


def read_template(text):
    """The template that has a text."""
    if not isinstance(text, str):
        raise InvalidText(text)
    # The first such sign is the right one: there is none in a name and in parameters.
    head, sign, body = text.partition(AHEAD_OF_BODY)
    name, opening, row = head.partition("(")
    if sign == "" or opening == "":
        raise InvalidText(text)
    parameters = row.split(BETWEEN_PARAMETERS) if row != "" else []
    try:
        return Template(name, parameters, read_term(body))
    except (InvalidText, InvalidName, InvalidParameters, InvalidBody):
        raise InvalidText(text) from None


def read_book(text):
    """The book that has a text."""
    if not isinstance(text, str):
        raise InvalidText(text)
    book = Book()
    lines = text.split("\n") if text != "" else []
    for index, line in enumerate(lines):
        book = book_with_line(book, line, index)
    return book


def book_with_line(book, line, index):
    """The book with one template more, which has the text of a line."""
    templates = [book[name] for name in book.names()]
    try:
        return Book(templates + [read_template(line)])
    except (InvalidText, InvalidBook, Duplicate, UnknownTemplate, InvalidCall):
        raise InvalidRow(index) from None
