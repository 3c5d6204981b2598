"""Books in which the binders of templates have names that no program uses."""

from caughtnames.books import Book
from caughtnames.choices import LETTERS, new_names
from caughtnames.errors import InvalidBook, InvalidLetter, Reserved
from caughtnames.scopes import parts_with_scopes
from caughtnames.templates import Template
from caughtnames.terms import BINDER_KINDS, binders, parts_within, term_of, uses


def mended(book, letter):
    """The book with names that begin with a letter for the binders of its bodies."""
    if not isinstance(book, Book) or not can_be_mended(book):
        raise InvalidBook(book)
    taken = reserved_names(book, letter)
    if taken:
        raise Reserved(taken[0])
    templates = [book[name] for name in book.names()]
    rows = [binders(template.body) for template in templates]
    new = new_names(sum([len(row) for row in rows]), (), letter)
    changed = []
    for template, row in zip(templates, rows):
        body = with_names_for_binders(template.body, new[:len(row)])
        new = new[len(row):]
        changed.append(Template(template.name, template.parameters, body))
    return Book(changed)


def reserved_names(book, letter):
    """The names of uses and binders in a book that begin with a letter, in ascending order."""
    names = names_in_book(book)
    if not isinstance(letter, str) or len(letter) != 1 or letter not in LETTERS:
        raise InvalidLetter(letter)
    return [name for name in names if name.startswith(letter)]


def free_letters(book):
    """The letters with which no name of a use or binder in a book begins, in ascending order."""
    firsts = [name[0] for name in names_in_book(book)]
    return [letter for letter in LETTERS if letter not in firsts]


def names_in_book(book):
    """The names of uses and binders in the bodies of a book, in ascending order."""
    if not isinstance(book, Book):
        raise InvalidBook(book)
    found = []
    for name in book.names():
        body = book[name].body
        found.extend([word for word in uses(body) + binders(body) if not word.startswith("$")])
    return sorted(set(found))


def can_be_mended(book):
    """True if no body of a book has a wanted binder or passes a name without a binder around it."""
    scoped = [place for name in book.names() for place in parts_with_scopes(book[name].body)]
    return all([is_mendable(book, part, around) for part, around in scoped])


def is_mendable(book, part, around):
    """True if a part, in a scope, is no wanted binder, and no call that passes a name without a binder."""
    if part[0] != "call":
        return part[0] != "want"
    passed = list(zip(book[part[1]].parameters, part[2]))
    names = [argument[1] for parameter, argument in passed if parameter.startswith("$")]
    return all([name.startswith("$") or name in around for name in names])


def with_names_for_binders(body, names):
    """The body with these names for its binders, those of name parameters excepted, and for their uses."""
    rows = []
    number = 0
    for part, around in parts_with_scopes(body):
        kind, name = part[:2]
        at = around.get(name) if kind == "name" else None
        if kind in BINDER_KINDS:
            at = number
            number += 1
        if at is not None and not name.startswith("$"):
            name = names[at]
        rows.append((kind, name, len(parts_within(part))))
    return term_of(rows)
