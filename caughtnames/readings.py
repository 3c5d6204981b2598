"""Flat bodies as their text reads and as they are meant, with terms in their holes that use any names."""

from caughtnames.links import have_same_value
from caughtnames.terms import BINDER_KINDS
from caughtnames.written import CALLER, meant_binder, text_binder


def text_rows(parts, kept):
    """The parts of a flat body as Linked takes them, each use linked to its text binder.

    Within each hole stand uses of all kept names that have a binder around it.
    """
    return rows_with_uses(parts, kept, lambda above, name, writer: ("name", text_binder(above, name)))


def meant_rows(parts, kept, sited):
    """The same, each use linked to its meant binder.

    A use of a sited name that a template wrote and that means no binder is no use of what
    the site has under this name.
    """

    def kind_and_binder(above, name, writer):
        binder = meant_binder(above, name, writer)
        is_global = binder is None and writer != CALLER and name in sited
        return "global" if is_global else "name", binder

    return rows_with_uses(parts, kept, kind_and_binder)


def rows_with_uses(parts, kept, kind_and_binder):
    """The parts of a flat body as Linked takes them, with uses within the holes."""
    rows = []
    places = []

    def link_use(above, name, writer):
        kind, binder = kind_and_binder(above, name, writer)
        rows.append((kind, name, 0, None if binder is None else places[binder.place]))

    for part in parts:
        places.append(len(rows))
        if part.kind == "name":
            link_use(part.above, part.name, part.writer)
        elif part.kind == "hole":
            names = sorted(set([binder.name for binder in part.above if binder.name in kept]))
            rows.append(("hole", part.name, len(names), None))
            for name in names:
                link_use(part.above, name, CALLER)
        else:
            rows.append(("let" if part.kind == "want" else part.kind, part.name, part.many, None))
    return rows


def shows_catch(parts, kept, sited):
    """True if what is meant has another value, with the kept names in the holes and the sited ones around."""
    return not have_same_value(text_rows(parts, kept), meant_rows(parts, kept, sited))


def names_of(parts):
    """The names of some parts, also those of operators and holes."""
    return sorted(set([part.name for part in parts]))


def binder_names(parts):
    """The names of the binders among some parts, in ascending order."""
    return sorted(set([part.name for part in parts if part.kind in BINDER_KINDS]))


def global_names(parts):
    """The names of the uses that a template wrote and that mean no binder, in ascending order."""
    uses = [part for part in parts if part.kind == "name" and part.writer != CALLER]
    return sorted(set([use.name for use in uses if meant_binder(use.above, use.name, use.writer) is None]))


def names_that_matter(parts):
    """The names for which it matters to a flat body, with its name parameters left, whether they are chosen.

    Another name that is chosen catches nothing, and is caught by nothing, that a new name
    would not.
    """
    found = []
    for part in parts:
        names = [binder.name for binder in part.above]
        fixed = [name for name in names if not name.startswith("$")]
        is_choice_near = len(fixed) < len(names)
        if part.kind == "name" and part.name.startswith("$"):
            found.extend(fixed)
        elif part.kind == "name" and is_choice_near:
            found.append(part.name)
        elif part.kind == "hole" and is_choice_near:
            found.extend(fixed)
    return sorted(set(found))
