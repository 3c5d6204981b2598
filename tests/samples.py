"""Values that several tests share."""

from caughtnames.books import Book
from caughtnames.errors import InvalidName
from caughtnames.templates import Template

USE = ("name", "a")


def values_of_every_kind():
    """Values of every kind that may be passed where any value may be."""
    return [
        None, True, False, 0, 1, -1, 10 ** 29, "", "a", "?a", "$a", "let", "f(x)", "a b\n",
        [], [1, [2]], (), (1, (True,)), {}, {"a": 1, 2: [None]},
        USE, ("op", "f", [USE]), ["name", "a"], ("call", "t", (USE,)),
        InvalidName("x"), InvalidName, Template("t", [], USE), Template, Book(), Book([Template("t", [], USE)]),
    ]


def chain(levels):
    """A term with so many levels and as many parts."""
    term = USE
    for _ in range(levels - 1):
        term = ("op", "f", (term,))
    return term


def wide(parts):
    """A term with so many parts, and with few levels."""
    if parts == 1:
        return USE
    rest = parts - 1
    if rest < 3:
        return ("op", "f", (wide(rest),))
    third = rest // 3
    return ("op", "f", (wide(third), wide(third), wide(rest - 2 * third)))


def wide_and_deep(parts, levels):
    """A term with so many parts and so many levels."""
    return ("op", "f", (chain(levels - 1), wide(parts - levels)))
