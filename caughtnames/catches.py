"""Which binder each use of an expanded program means, and which uses are caught."""

from caughtnames.choices import new_names
from caughtnames.expansion import written_program
from caughtnames.terms import BINDER_KINDS
from caughtnames.written import meant_binder, number_of, text_binder, written_term


def meant_scopes(book, program):
    """The number of the meant binder of each use of the expanded program, or None."""
    return [meant for text, meant in binders_of_uses(book, program)]


def each_catch(book, program):
    """Yield the number of each caught use, that of its text binder and that of its meant binder."""
    for use, (text, meant) in enumerate(binders_of_uses(book, program)):
        if text != meant:
            yield (use, text, meant)


def catches(book, program):
    """The list of what each_catch yields."""
    return list(each_catch(book, program))


def apart(book, program):
    """The expanded program with different names for its binders, so that its text binders are the meant ones."""
    parts = written_program(book, program)
    return with_new_binders(parts, range_of_binders(parts))


def binders_of_uses(book, program):
    """For each use of the expanded program the number of its text binder and that of its meant binder."""
    found = []
    for part in written_program(book, program):
        if part.kind == "name":
            text = text_binder(part.above, part.name)
            meant = meant_binder(part.above, part.name, part.writer)
            found.append((number_of(text), number_of(meant)))
    return found


def range_of_binders(parts):
    """The numbers of all binders among some parts."""
    return list(range(len([part for part in parts if part.kind in BINDER_KINDS])))


def with_new_binders(parts, numbers):
    """The term of some parts, in which binders and the uses that mean them have new names."""
    names = [part.name for part in parts]
    return written_term(parts, dict(zip(numbers, new_names(len(numbers), names))))
