"""Programs expanded by a book: all calls replaced, as text."""

from caughtnames.books import Book, need_fitting_calls
from caughtnames.errors import InvalidBook, InvalidProgram, TooLarge
from caughtnames.terms import GREATEST_DEPTH, MOST_PARTS, is_program, parts_within, term_of

# The key for what a body has by itself, beside the parameters of its holes.
OWN = ""


def need_calls(book, program):
    """Raise what each function of a book and a program raises."""
    if not isinstance(book, Book):
        raise InvalidBook(book)
    if not is_program(program):
        raise InvalidProgram(program)
    need_fitting_calls(program, book)


def expanded_size(book, program):
    """The size of the expanded program, however great it is."""
    need_calls(book, program)
    return sizes_of(program, book, template_sizes(book))[OWN]


def expand(book, program):
    """The expanded program."""
    need_room(book, program)
    return term_of(expanded_rows(book, program))


def need_room(book, program):
    """Raise what expand raises."""
    size = expanded_size(book, program)
    if size > MOST_PARTS:
        raise TooLarge(size)
    height = heights_of(program, book, template_heights(book))[OWN]
    if height > GREATEST_DEPTH:
        raise TooLarge(height)


def template_sizes(book):
    """For the name of each template what sizes_of returns for its body."""
    known = {}
    for name in book.names():
        known[name] = sizes_of(book[name].body, book, known)
    return known


def sizes_of(part, book, known):
    """How many parts a part of a body is expanded to, and how often each hole occurs there.

    These are the values of a dict, with the keys OWN and the parameters of the holes. Known
    has such a dict for each template that may be called.
    """
    if part[0] == "hole":
        return {"?" + part[1]: 1}
    inner = [sizes_of(other, book, known) for other in parts_within(part)]
    own, times = 1, [1] * len(inner)
    if part[0] == "call":
        called = known[part[1]]
        own, times = called.get(OWN, 0), [called.get(parameter, 0) for parameter in book[part[1]].parameters]
    total = {OWN: own}
    for many, sizes in zip(times, inner):
        for key in sizes:
            total[key] = total.get(key, 0) + many * sizes[key]
    return total


def template_heights(book):
    """For the name of each template what heights_of returns for its body."""
    known = {}
    for name in book.names():
        known[name] = heights_of(book[name].body, book, known)
    return known


def heights_of(part, book, known):
    """The height of what a part of a body is expanded to, and how deep each hole lies in it.

    These are the values of a dict, as in sizes_of; a hole that does not occur has none.
    Around what replaces a call one level more is counted.
    """
    if part[0] == "hole":
        return {"?" + part[1]: 0}
    inner = [heights_of(other, book, known) for other in parts_within(part)]
    total = {OWN: 1}
    levels = [1] * len(inner)
    if part[0] == "call":
        called = known[part[1]]
        total = {OWN: 1 + called[OWN]} if OWN in called else {}
        levels = [1 + called[key] if key in called else None for key in book[part[1]].parameters]
    for level, heights in zip(levels, inner):
        if level is not None:
            for key in heights:
                total[key] = max(total.get(key, 0), level + heights[key])
    return total


def expanded_rows(book, program):
    """The parts of the expanded program in the order of text, as term_of takes them."""
    rows = []
    waiting = [(program, {})]
    while waiting:
        part, passed = waiting.pop()
        kind, name = part[:2]
        if kind == "hole":
            waiting.append(passed["?" + name])
        elif kind == "call":
            waiting.append((book[name].body, passed_by_call(book[name], part, passed)))
        else:
            within = parts_within(part)
            rows.append(("let" if kind == "want" else kind, passed.get(name, name), len(within)))
            waiting.extend([(inner, passed) for inner in within[::-1]])
    return rows


def passed_by_call(template, call, passed):
    """What a call passes for the parameters of a template: a dict.

    It has the name for a name parameter. For a hole it has the argument together with what
    was passed where the call stands, so that a call in an argument that is put nowhere is
    not replaced.
    """
    row = {}
    for parameter, argument in zip(template.parameters, call[2]):
        if parameter.startswith("?"):
            row[parameter] = (argument, passed)
        else:
            row[parameter] = passed.get(argument[1], argument[1])
    return row
