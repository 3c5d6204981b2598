"""Tables: what a template does to the names that are put in, and to its own ones."""

from caughtnames.books import need_fitting_calls, need_named
from caughtnames.choices import is_choice
from caughtnames.errors import InvalidChoice, InvalidTables, InvalidTemplate, TooLarge, UnknownHole
from caughtnames.expansion import need_flat_room
from caughtnames.templates import Template, names_with_sign
from caughtnames.terms import BINDER_KINDS, numbers_within, parts_of_body, parts_within
from caughtnames.words import is_name
from caughtnames.written import BODY_WRITER, left_parts, meant_binder

MOST_ROWS = 400


class Table:
    """The table of a template, which never changes."""

    def __init__(self, parameters, rows):
        self.parameters = tuple(parameters)
        self.listed = tuple(rows)

    def __eq__(self, other):
        if not isinstance(other, Table):
            return False
        return self.parameters == other.parameters and self.listed == other.listed

    def rows(self):
        """The rows: tuples of what stands there, who it is, the binders above it, and the meant one."""
        return list(self.listed)

    def barred(self, hole, names):
        """The names that would be caught in a hole by binders that are not the caller's."""
        found = []
        for above in self.above_hole(hole, names):
            nearest = nearest_binders(above, names)
            found.extend([name for name in nearest if above[nearest[name]][0] == "own"])
        return sorted(set(found))

    def foreign(self, hole, names):
        """The names that have a binder around a hole."""
        found = []
        for above in self.above_hole(hole, names):
            found.extend(list(nearest_binders(above, names)))
        return sorted(set(found))

    def broken(self, names):
        """The indexes of the rows that catch whatever is put in."""
        self.need_choice(names)
        return [index for index, row in enumerate(self.listed) if is_broken(row, names)]

    def site_barred(self, names):
        """The names that would be caught by binders around the call."""
        self.need_choice(names)
        found = []
        for what, who, above, meant in self.listed:
            if what == "use" and meant is None and who not in nearest_binders(above, names):
                found.append(who)
        return sorted(set(found))

    def above_hole(self, hole, names):
        """The binders above each row of a hole, after the checks."""
        if hole not in names_with_sign("?", self.parameters):
            raise UnknownHole(hole)
        self.need_choice(names)
        return [above for what, who, above, meant in self.listed if what == "hole" and who == hole]

    def need_choice(self, names):
        """Raise InvalidChoice unless names is a choice."""
        if not is_choice(names, names_with_sign("$", self.parameters)):
            raise InvalidChoice(names)


def nearest_binders(above, names):
    """For each actual name of binders the index of the nearest one."""
    return {names[name] if kind == "given" else name: at for at, (kind, name) in enumerate(above)}


def is_broken(row, names):
    """True if a row catches whatever the fillings and the site are."""
    what, who, above, meant = row
    if what == "hole":
        return False
    nearest = nearest_binders(above, names)
    if what == "use":
        return nearest.get(who) != meant
    return names[who] in nearest and above[nearest[names[who]]][0] == "own"


def table_of(book, name):
    """The table of a template of a book."""
    need_named(book, name)
    need_flat_room(book, name)
    parts = left_parts(book, book[name])
    return Table(book[name].parameters, [row_of(part) for part in parts if part.kind in ("hole", "name")])


def row_of(part):
    """The row for a hole or a use of a flat body in which the name parameters are left."""
    above = tuple([kind_and_name(binder) for binder in part.above])
    if part.kind == "hole":
        return ("hole", part.name, above, None)
    if part.name.startswith("$"):
        return ("choice", part.name[1:], above, None)
    meant = meant_binder(part.above, part.name, part.writer)
    return ("use", part.name, above, None if meant is None else part.above.index(meant))


def kind_and_name(binder):
    """What a row tells of a binder."""
    if binder.name.startswith("$"):
        return ("given", binder.name[1:])
    return ("wanted" if binder.kind == "want" and binder.writer == BODY_WRITER else "own", binder.name)


def table_from(template, tables):
    """The table of a template, made from those of the templates that it calls."""
    if not isinstance(template, Template):
        raise InvalidTemplate(template)
    if not is_dict_of_tables(tables):
        raise InvalidTables(tables)
    need_fitting_calls(template.body, tables)
    joined = Joined(template.body, tables)
    if joined.counts[0] > MOST_ROWS:
        raise TooLarge(joined.counts[0])
    joined.add_rows(0, ())
    return Table(template.parameters, joined.found)


def is_dict_of_tables(value):
    """True if value is a dict from names to tables."""
    if not isinstance(value, dict):
        return False
    return all([is_name(name) and isinstance(table, Table) for name, table in value.items()])


class Joined:
    """The rows of the table of a body, joined from the tables of the templates that it calls.

    On the way there are three things about each binder above: its kind, its name, and
    whether it binds what the body itself wrote.
    """

    def __init__(self, body, tables):
        self.tables = tables
        self.parts = [part for part, level in parts_of_body(body)]
        self.inner = numbers_within([len(parts_within(part)) for part in self.parts])
        self.counts = self.counted_rows()
        self.found = []

    def counted_rows(self):
        """For each part the number of its rows."""
        counts = [1] * len(self.parts)
        for number in range(len(self.parts) - 1, -1, -1):
            part = self.parts[number]
            if part[0] == "call":
                passed = self.passed_numbers(number)
                rows = self.tables[part[1]].rows()
                counts[number] = sum([counts[passed["?" + row[1]]] if row[0] == "hole" else 1 for row in rows])
            elif part[0] not in ("name", "hole"):
                counts[number] = sum([counts[inner] for inner in self.inner[number]])
        return counts

    def passed_numbers(self, number):
        """The number of the part that a call passes for each parameter."""
        return dict(zip(self.tables[self.parts[number][1]].parameters, self.inner[number]))

    def add_rows(self, number, above):
        """Add the rows of a part with these binders above it."""
        part = self.parts[number]
        if self.counts[number] == 0:
            # An argument without rows may be put in too many times to be looked at.
            return
        if part[0] == "hole":
            self.add_row("hole", part[1], above, None)
        elif part[0] == "name":
            self.add_use(part[1], above)
        elif part[0] == "call":
            self.add_rows_of_call(number, above)
        else:
            for at, inner in enumerate(self.inner[number]):
                is_inside = part[0] in BINDER_KINDS and at == 1
                self.add_rows(inner, (*above, own_binder(part)) if is_inside else above)

    def add_rows_of_call(self, number, above):
        """Add the rows of a call with these binders above it."""
        passed = self.passed_numbers(number)
        choices = names_with_sign("$", list(passed))
        names = {choice: self.parts[passed["$" + choice]][1] for choice in choices}
        for what, who, inside, meant in self.tables[self.parts[number][1]].rows():
            around = (*above, *[called_binder(binder, names) for binder in inside])
            if what == "hole":
                self.add_rows(passed["?" + who], around)
            elif what == "choice":
                self.add_use(names[who], around)
            else:
                self.add_row("use", who, around, None if meant is None else len(above) + meant)

    def add_use(self, name, above):
        """Add the row for a use that the body wrote, or of a name parameter."""
        if name.startswith("$"):
            self.add_row("choice", name[1:], above, None)
        else:
            binding = [at for at, binder in enumerate(above) if binder[1] == name and binder[2]]
            self.add_row("use", name, above, binding[-1] if binding else None)

    def add_row(self, what, who, above, meant):
        """Add a row."""
        self.found.append((what, who, tuple([binder[:2] for binder in above]), meant))


def own_binder(part):
    """What Joined has for a binder of the body."""
    if part[1].startswith("$"):
        return ("given", part[1][1:], False)
    return ("wanted" if part[0] == "want" else "own", part[1], True)


def called_binder(binder, names):
    """What Joined has for a binder in the table of a called template, to which these names are passed."""
    kind, name = binder
    if kind == "given" and names[name].startswith("$"):
        return ("given", names[name][1:], False)
    return ("own", names[name] if kind == "given" else name, kind != "own")
