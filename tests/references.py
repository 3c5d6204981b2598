"""Other ways to find what the package finds: short and slow ones, without any limits."""


def unique_binders(term):
    """The term with the names 0, 1, 2 .. for its binders in the order of text, and for the uses that they bind."""
    count = 0

    def renamed(part, names):
        nonlocal count
        if part[0] == "name":
            return ("name", names.get(part[1], part[1]))
        if part[0] == "op":
            return ("op", part[1], tuple(renamed(inner, names) for inner in part[2]))
        number = count
        count += 1
        first = renamed(part[2], names)
        return (part[0], number, first, renamed(part[3], {**names, part[1]: number}))

    return renamed(term, {})


def names_of_uses(term):
    """The names of the uses of a term, in the order of text."""
    if term[0] == "name":
        return [term[1]]
    return [name for inner in (term[2] if term[0] == "op" else term[2:]) for name in names_of_uses(inner)]


def text_binders(term):
    """The number of the text binder of each use, or None."""
    return [name if isinstance(name, int) else None for name in names_of_uses(unique_binders(term))]


def value_of(term):
    """The value of a term, written out: like a term, but with numbers for the uses of names that eaches bind."""

    def unfolded(part, lets):
        if part[0] == "name":
            return unfolded(lets[part[1]], lets) if part[1] in lets else part
        if part[0] == "op":
            return ("op", part[1], tuple(unfolded(inner, lets) for inner in part[2]))
        if part[0] == "let":
            return unfolded(part[3], {**lets, part[1]: part[2]})
        return ("each", part[1], unfolded(part[2], lets), unfolded(part[3], lets))

    def numbered(part, eaches):
        if part[0] == "name":
            return ("bound", eaches[::-1].index(part[1])) if part[1] in eaches else ("free", part[1])
        if part[0] == "op":
            return ("op", part[1], tuple(numbered(inner, eaches) for inner in part[2]))
        return ("each", numbered(part[2], eaches), numbered(part[3], eaches + [part[1]]))

    return numbered(unfolded(unique_binders(term), {}), [])


def rows_of(value):
    """The list of the rows of a value."""
    rows = []

    def index_of(part):
        row = part
        if part[0] == "op":
            row = ("op", part[1], tuple(index_of(inner) for inner in part[2]))
        if part[0] == "each":
            first = index_of(part[1])
            row = ("each", first, index_of(part[2]))
        if row not in rows:
            rows.append(row)
        return rows.index(row)

    index_of(value)
    return rows


def parts_in_text(term):
    """The parts of a term in the order of text."""
    inner = {"name": (), "op": term[2:3]}.get(term[0], (term[2:],))
    return [term] + [part for row in inner for other in row for part in parts_in_text(other)]


def expanded(book, part, passed=()):
    """A part of a program with all calls replaced, each as soon as its arguments are.

    Around what replaces a call stands a part of the kind "replaced" with it.
    """
    passed = dict(passed)
    kind, name = part[0], passed.get(part[1], part[1])
    if kind == "name":
        return ("name", name)
    if kind == "hole":
        return passed["?" + name]
    if kind == "call":
        arguments = [expanded(book, argument, passed) for argument in part[2]]
        row = [
            argument if parameter[0] == "?" else argument[1]
            for parameter, argument in zip(book[name].parameters, arguments)]
        return ("replaced", "", expanded(book, book[name].body, zip(book[name].parameters, row)))
    if kind == "op":
        return ("op", name, tuple(expanded(book, inner, passed) for inner in part[2]))
    return ("let" if kind == "want" else kind, name, expanded(book, part[2], passed), expanded(book, part[3], passed))


def without_replaced(part):
    """An expanded term without the parts around what replaced a call."""
    if part[0] == "replaced":
        return without_replaced(part[2])
    if part[0] == "op":
        return ("op", part[1], tuple(without_replaced(inner) for inner in part[2]))
    return part[:2] + tuple(without_replaced(inner) for inner in part[2:])


def levels_of(part):
    """The depth of a part."""
    inner = part[2] if part[0] == "op" else part[2:]
    return 1 + max([levels_of(other) for other in inner], default=0)
