"""Programs expanded by a book: all calls replaced, as text."""

from caughtnames.books import Book, need_fitting_calls
from caughtnames.errors import InvalidBook, InvalidProgram, TooLarge
from caughtnames.terms import GREATEST_DEPTH, MOST_PARTS, is_program, parts_within
from caughtnames.written import written_parts, written_term

# The key for what a body has by itself, beside the parameters of its holes.
OWN = ""


def need_calls(book, program):
    """Raise what each function of a book and a program raises."""
    if not isinstance(book, Book):
        raise InvalidBook(book)
    if not is_program(program):
        raise InvalidProgram(program)
    need_fitting_calls(program, book)


def expanded_size(book, program):
    """The size of the expanded program, however great it is."""
    need_calls(book, program)
    return sizes_of(program, book, template_sizes(book))[OWN]


def expand(book, program):
    """The expanded program."""
    return written_term(written_program(book, program), {})


def written_program(book, program):
    """The parts of the expanded program with their writers. What it raises, expand raises."""
    need_room(book, program)
    return written_parts(book, program, {})


def need_room(book, program):
    """Raise what expand raises."""
    size = expanded_size(book, program)
    need_size_and_height(size, heights_of(program, book, template_heights(book)))


def need_flat_room(book, name):
    """Raise TooLarge if the flat body of a template is too large; each of its own holes counts as one part."""
    sizes = template_sizes(book)[name]
    heights = template_heights(book)[name]
    levels = {key: heights[key] if key == OWN else heights[key] + 1 for key in heights}
    need_size_and_height(sum(list(sizes.values())), levels)


def need_size_and_height(size, heights):
    """Raise TooLarge if a size, or the greatest of some heights, is too great."""
    if size > MOST_PARTS:
        raise TooLarge(size)
    height = max(list(heights.values()))
    if height > GREATEST_DEPTH:
        raise TooLarge(height)


def template_sizes(book):
    """For the name of each template what sizes_of returns for its body."""
    known = {}
    for name in book.names():
        known[name] = sizes_of(book[name].body, book, known)
    return known


def sizes_of(part, book, known):
    """How many parts a part of a body is expanded to, and how often each hole occurs there.

    These are the values of a dict, with the keys OWN and the parameters of the holes. Known
    has such a dict for each template that may be called.
    """
    if part[0] == "hole":
        return {"?" + part[1]: 1}
    inner = [sizes_of(other, book, known) for other in parts_within(part)]
    own, times = 1, [1] * len(inner)
    if part[0] == "call":
        called = known[part[1]]
        own, times = called.get(OWN, 0), [called.get(parameter, 0) for parameter in book[part[1]].parameters]
    total = {OWN: own}
    for many, sizes in zip(times, inner):
        for key in sizes:
            total[key] = total.get(key, 0) + many * sizes[key]
    return total


def template_heights(book):
    """For the name of each template what heights_of returns for its body."""
    known = {}
    for name in book.names():
        known[name] = heights_of(book[name].body, book, known)
    return known


def heights_of(part, book, known):
    """The height of what a part of a body is expanded to, and how deep each hole lies in it.

    These are the values of a dict, as in sizes_of; a hole that does not occur has none.
    Around what replaces a call one level more is counted.
    """
    if part[0] == "hole":
        return {"?" + part[1]: 0}
    inner = [heights_of(other, book, known) for other in parts_within(part)]
    total = {OWN: 1}
    levels = [1] * len(inner)
    if part[0] == "call":
        called = known[part[1]]
        total = {OWN: 1 + called[OWN]} if OWN in called else {}
        levels = [1 + called[key] if key in called else None for key in book[part[1]].parameters]
    for level, heights in zip(levels, inner):
        if level is not None:
            for key in heights:
                total[key] = max(total.get(key, 0), level + heights[key])
    return total
