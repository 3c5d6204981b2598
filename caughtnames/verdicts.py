"""Verdicts on all calls of a template: which are clean, and what to keep away from the others."""

from caughtnames.books import need_named
from caughtnames.choices import fresh_choice, is_choice, near_choices
from caughtnames.errors import InvalidChoice, InvalidFillings, InvalidProgram, InvalidSite, InvalidTemplate
from caughtnames.scopes import free_names
from caughtnames.tables import table_of
from caughtnames.templates import Template
from caughtnames.terms import PLAIN, is_program, is_term
from caughtnames.words import is_name

MOST_SITE_NAMES = 8
# The key of shield for the names that a site must not bind.
SITE = ""


def call_of(template, names, fillings):
    """The call of a template with the chosen names and the fillings."""
    if not isinstance(template, Template):
        raise InvalidTemplate(template)
    need_choice_and_fillings(template, names, fillings)
    passed = []
    for parameter in template.parameters:
        name = parameter[1:]
        passed.append(fillings[name] if parameter.startswith("?") else ("name", names[name]))
    return ("call", template.name, tuple(passed))


def at_site(site, program):
    """The program with a let of each name of a site around it, the first one outermost."""
    need_site(site)
    if not is_program(program):
        raise InvalidProgram(program)
    for name, part in site[::-1]:
        program = ("let", name, part, program)
    return program


def is_clean(book, name, names, fillings, *, site=()):
    """True if by the table of the template nothing is caught in a call of it at a site."""
    need_named(book, name)
    need_choice_and_fillings(book[name], names, fillings)
    need_site(site)
    table = table_of(book, name)
    if table.broken(names):
        return False
    for hole in fillings:
        barred = table.barred(hole, names)
        if [free for free in free_names(fillings[hole]) if free in barred]:
            return False
    barred = table.site_barred(names)
    return not [bound for bound, part in site if bound in barred]


def some_catch(book, name):
    """A choice, fillings and a site with which a call of the template is not clean, or None."""
    table = table_of(book, name)
    template = book[name]
    used = names_in_rows(table)
    fillings = {hole: PLAIN for hole in template.holes()}
    # Two names that are chosen at once break no row that neither of them breaks by itself.
    for names in near_choices(template.choices(), used, used):
        if table.broken(names):
            return names, fillings, ()
    names = fresh_choice(template.choices(), used)
    for hole in template.holes():
        barred = table.barred(hole, names)
        if barred:
            return names, {**fillings, hole: ("name", barred[0])}, ()
    barred = table.site_barred(names)
    return (names, fillings, ((barred[0], PLAIN),)) if barred else None


def shield(book, name):
    """The names that are barred, with some choice, for each hole of a template and for the site."""
    table = table_of(book, name)
    template = book[name]
    # With new names most is barred: a binder of a chosen name bars none, and may keep its
    # name from the binders further out.
    names = fresh_choice(template.choices(), names_in_rows(table))
    barred = {hole: table.barred(hole, names) for hole in template.holes()}
    return {**barred, SITE: table.site_barred(names)}


def names_in_rows(table):
    """All names in the rows of a table that are no parameters."""
    found = []
    for what, who, above, meant in table.rows():
        found.extend([name for kind, name in above if kind != "given"])
        if what == "use":
            found.append(who)
    return sorted(set(found))


def need_choice_and_fillings(template, names, fillings):
    """Raise InvalidChoice or InvalidFillings unless these fit a template."""
    if not is_choice(names, template.choices()):
        raise InvalidChoice(names)
    if not are_fillings(fillings, template.holes()):
        raise InvalidFillings(fillings)


def are_fillings(value, holes):
    """True if value is a dict that has a term for each hole, and no other key."""
    if not isinstance(value, dict) or len(value) != len(holes):
        return False
    return all([hole in value and is_term(value[hole]) for hole in holes])


def need_site(site):
    """Raise InvalidSite unless site is a site."""
    if not isinstance(site, (list, tuple)) or len(site) > MOST_SITE_NAMES:
        raise InvalidSite(site)
    for item in site:
        if not isinstance(item, tuple) or len(item) != 2 or not is_name(item[0]) or not is_term(item[1]):
            raise InvalidSite(site)
