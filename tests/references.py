"""Other ways to find what the package finds: short and slow ones, without any limits."""

import itertools


def unique_binders(term):
    """The term with the names 0, 1, 2 .. for its binders in the order of text, and for the uses that they bind."""
    count = 0

    def renamed(part, names):
        nonlocal count
        if part[0] == "name":
            return ("name", names.get(part[1], part[1]))
        if part[0] == "op":
            return ("op", part[1], tuple(renamed(inner, names) for inner in part[2]))
        number = count
        count += 1
        first = renamed(part[2], names)
        return (part[0], number, first, renamed(part[3], {**names, part[1]: number}))

    return renamed(term, {})


def names_of_uses(term):
    """The names of the uses of a term, in the order of text."""
    if term[0] == "name":
        return [term[1]]
    return [name for inner in (term[2] if term[0] == "op" else term[2:]) for name in names_of_uses(inner)]


def text_binders(term):
    """The number of the text binder of each use, or None."""
    return [name if isinstance(name, int) else None for name in names_of_uses(unique_binders(term))]


def value_of(term):
    """The value of a term, written out: like a term, but with numbers for the uses of names that eaches bind."""

    def unfolded(part, lets):
        if part[0] == "name":
            return unfolded(lets[part[1]], lets) if part[1] in lets else part
        if part[0] == "op":
            return ("op", part[1], tuple(unfolded(inner, lets) for inner in part[2]))
        if part[0] == "let":
            return unfolded(part[3], {**lets, part[1]: part[2]})
        return ("each", part[1], unfolded(part[2], lets), unfolded(part[3], lets))

    def numbered(part, eaches):
        if part[0] == "name":
            return ("bound", eaches[::-1].index(part[1])) if part[1] in eaches else ("free", part[1])
        if part[0] == "op":
            return ("op", part[1], tuple(numbered(inner, eaches) for inner in part[2]))
        return ("each", numbered(part[2], eaches), numbered(part[3], eaches + [part[1]]))

    return numbered(unfolded(unique_binders(term), {}), [])


def rows_of(value):
    """The list of the rows of a value."""
    rows = []

    def index_of(part):
        row = part
        if part[0] == "op":
            row = ("op", part[1], tuple(index_of(inner) for inner in part[2]))
        if part[0] == "each":
            first = index_of(part[1])
            row = ("each", first, index_of(part[2]))
        if row not in rows:
            rows.append(row)
        return rows.index(row)

    index_of(value)
    return rows


def parts_in_text(term):
    """The parts of a term in the order of text."""
    inner = {"name": (), "op": term[2:3]}.get(term[0], (term[2:],))
    return [term] + [part for row in inner for other in row for part in parts_in_text(other)]


def expanded(book, part, passed=()):
    """A part of a program with all calls replaced, each as soon as its arguments are.

    Around what replaces a call stands a part of the kind "replaced" with it.
    """
    passed = dict(passed)
    kind, name = part[0], passed.get(part[1], part[1])
    if kind == "name":
        return ("name", name)
    if kind == "hole":
        return passed["?" + name]
    if kind == "call":
        arguments = [expanded(book, argument, passed) for argument in part[2]]
        row = [
            argument if parameter[0] == "?" else argument[1]
            for parameter, argument in zip(book[name].parameters, arguments)]
        return ("replaced", "", expanded(book, book[name].body, zip(book[name].parameters, row)))
    if kind == "op":
        return ("op", name, tuple(expanded(book, inner, passed) for inner in part[2]))
    return ("let" if kind == "want" else kind, name, expanded(book, part[2], passed), expanded(book, part[3], passed))


def without_replaced(part):
    """An expanded term without the parts around what replaced a call."""
    if part[0] == "replaced":
        return without_replaced(part[2])
    if part[0] == "op":
        return ("op", part[1], tuple(without_replaced(inner) for inner in part[2]))
    return part[:2] + tuple(without_replaced(inner) for inner in part[2:])


def levels_of(part):
    """The depth of a part."""
    inner = part[2] if part[0] == "op" else part[2:]
    return 1 + max([levels_of(other) for other in inner], default=0)


def marked(book, part, writer=0, asker=None, passed=None, calls=None):
    """A part with all calls replaced, in which each name of a use or binder has its writer beside it.

    Binders have three items behind their kind: name, writer, and the asker of a wanted one.
    """
    passed = {} if passed is None else passed
    calls = itertools.count(1) if calls is None else calls
    kind, name = part[0], passed.get(part[1], (part[1], writer))

    def inner(other):
        return marked(book, other, writer, asker, passed, calls)

    if kind == "hole":
        return passed["?" + part[1]]() if "?" + part[1] in passed else part
    if kind == "name":
        return ("name", name)
    if kind == "op":
        return ("op", part[1], tuple(inner(other) for other in part[2]))
    if kind == "call":
        row = {
            parameter: (lambda argument=argument: inner(argument)) if parameter[0] == "?"
            else passed.get(argument[1], (argument[1], writer))
            for parameter, argument in zip(book[part[1]].parameters, part[2])}
        return marked(book, book[part[1]].body, next(calls), writer, row, calls)
    return (kind, (*name, asker if kind == "want" else None), inner(part[2]), inner(part[3]))


def marked_leaves(part):
    """The uses and holes of a marked part, in the order of text, each with the binders around it.

    A binder is given by its number, its kind, its name, its writer and its asker.
    """
    found = []
    numbers = itertools.count()

    def walk(part, above):
        if part[0] in ("name", "hole"):
            found.append((part, above))
        elif part[0] == "op":
            for other in part[2]:
                walk(other, above)
        else:
            binder = (next(numbers), part[0], *part[1])
            walk(part[2], above)
            walk(part[3], above + [binder])

    walk(part, [])
    return found


def innermost(above, name, writer=None):
    """The index of the innermost binder of a name, or of the innermost one that binds a use of this writer."""
    found = [at for at, binder in enumerate(above) if binder[2] == name and writer in (None, *binder[3:])]
    return found[-1] if found else None


def binders_meant(book, program):
    """For each use of an expanded program the numbers of its text binder and of its meant binder."""
    found = []
    for (_, (name, writer)), above in marked_leaves(marked(book, program)):
        indexes = [innermost(above, name), innermost(above, name, writer)]
        found.append(tuple(None if at is None else above[at][0] for at in indexes))
    return found


def table_rows(book, template):
    """The rows of the table of a template."""
    left = {"$" + name: ("$" + name, -1) for name in template.choices()}
    rows = []
    for part, above in marked_leaves(marked(book, template.body, 0, -1, left)):
        binders = tuple(
            ("given", name[1:]) if name[0] == "$" else ("wanted" if (kind, writer) == ("want", 0) else "own", name)
            for _, kind, name, writer, _ in above)
        if part[0] == "hole":
            rows.append(("hole", part[1], binders, None))
        elif part[1][0][0] == "$":
            rows.append(("choice", part[1][0][1:], binders, None))
        else:
            rows.append(("use", part[1][0], binders, innermost(above, *part[1])))
    return rows


def names_in_bodies(book):
    """All names of uses and binders in the bodies of a book that are no name parameters."""

    def names_of(part):
        own = [part[1]] if part[0] in ("name", "let", "each", "want") else []
        inner = part[2] if part[0] in ("op", "call") else part[2:]
        return own + [name for other in inner for name in names_of(other)]

    return sorted({name for template in book.names() for name in names_of(book[template].body) if name[0] != "$"})


def every_choice(template, names):
    """Choices of these names and of two others, each with each."""
    for row in itertools.product([*names, "qa", "qb"], repeat=len(template.choices())):
        yield dict(zip(template.choices(), row))


def tree_of_names(operator, names):
    """A term with an operator that uses all these names."""
    if len(names) <= 2:
        return ("op", operator, tuple(("name", name) for name in names))
    return ("op", operator, (*[("name", name) for name in names[:2]], tree_of_names(operator, names[2:])))
