"""Templates compared for all calls, and catches that a value shows."""

from caughtnames.books import need_named
from caughtnames.choices import all_choices, fresh_choice, near_choices, new_names
from caughtnames.errors import InvalidChoice, InvalidMode, InvalidTemplate, UnlikeParameters
from caughtnames.expansion import need_room, written_program
from caughtnames.links import have_same_value
from caughtnames.readings import binder_names, global_names, names_of, names_that_matter, shows_catch, text_rows
from caughtnames.templates import Template
from caughtnames.terms import BINDER_KINDS, MOST_OPERANDS, PLAIN
from caughtnames.verdicts import call_of
from caughtnames.words import is_name
from caughtnames.written import flat_parts, left_parts, number_of, text_binder

MODES = ("scopes", "values")


def patterns(template, names):
    """Yield choices from exactly one of which each choice arises by other names for those that are not listed."""
    if not isinstance(template, Template):
        raise InvalidTemplate(template)
    if not isinstance(names, (list, tuple)) or not all([is_name(name) for name in names]):
        raise InvalidChoice(names)
    for choice in all_choices(template.choices(), names, names):
        yield choice


def alike(book, one, other, *, by="scopes"):
    """A choice and fillings for which two templates give different terms, or different values, or None."""
    need_named(book, one)
    need_named(book, other)
    if book[one].parameters != book[other].parameters:
        raise UnlikeParameters(other)
    if by not in MODES:
        raise InvalidMode(by)
    need_plain_call(book, one)
    need_plain_call(book, other)
    templates = (book[one], book[other])
    found = unlike_scopes(book, templates)
    if found is not None and by == "values":
        # Alike terms have equal values, so only other ones are compared by them.
        found = unlike_values(book, templates)
    return found


def seen(book, program):
    """True if a catch changes the value of the expanded program."""
    return shows_catch(written_program(book, program), (), ())


def ever_seen(book, name):
    """A choice, fillings and a site with which a catch changes the value of a call, or None."""
    need_named(book, name)
    need_plain_call(book, name)
    template = book[name]
    left = left_parts(book, template)
    for names in all_choices(template.choices(), names_that_matter(left), names_of(left)):
        parts = flat_parts(book, template, names)
        # All global names are sited first: if that shows a catch, one of them does, or none.
        if shows_catch(parts, binder_names(parts), global_names(parts)):
            fillings, site = shown_catch(template, parts)
            return names, fillings, site
    return None


def shown_catch(template, parts):
    """Fillings and a site that show a catch, if there are some for the parts of a flat body."""
    all_names = binder_names(parts)
    sited = []
    if not shows_catch(parts, all_names, sited):
        sited = [name for name in global_names(parts) if shows_catch(parts, all_names, [name])][:1]
    kept = names_needed(all_names, lambda names: shows_catch(parts, names, sited))
    return fillings_with(template, parts, kept), tuple([(name, PLAIN) for name in sited])


def need_plain_call(book, name):
    """Raise TooLarge if a call of a template with the plain term in each hole is too large."""
    template = book[name]
    names = fresh_choice(template.choices(), ())
    need_room(book, call_of(template, names, {hole: PLAIN for hole in template.holes()}))


def unlike_scopes(book, templates):
    """A choice and fillings for which two templates give terms that are not alike, or None."""
    left = left_in_both(book, templates)
    for names in near_choices(templates[0].choices(), names_that_matter(left), names_of(left)):
        one, other = [flat_parts(book, template, names) for template in templates]
        for first, second in zip(scope_shapes(one), scope_shapes(other)):
            if first != second:
                return names, fillings_between(templates[0], one + other, first, second)
    return None


def left_in_both(book, templates):
    """The parts of both flat bodies, with the name parameters left in their places."""
    return [part for template in templates for part in left_parts(book, template)]


def scope_shapes(parts):
    """What the expanded terms have in common at the places of the parts of a flat body, whatever the fillings are.

    For a hole this is the number of the binder that it has around it for each name.
    """
    return [scope_shape(part) for part in parts]


def scope_shape(part):
    """The item of scope_shapes for a part."""
    if part.kind in BINDER_KINDS:
        return ("each" if part.kind == "each" else "let",)
    if part.kind == "hole":
        return ("hole", part.name, {binder.name: binder.number for binder in part.above})
    if part.kind == "name":
        number = number_of(text_binder(part.above, part.name))
        return ("name", part.name if number is None else number)
    return ("op", part.name, part.many)


def fillings_between(template, parts, first, second):
    """Fillings which show that the shapes are different for two parts at the same place."""
    if first[:2] == second[:2] and first[0] == "hole":
        one, other = first[2], second[2]
        names = [name for name in sorted(list(one) + list(other)) if one.get(name) != other.get(name)]
        return {hole: ("name", names[0]) if hole == first[1] else PLAIN for hole in template.holes()}
    new = new_names(len(template.holes()), names_of(parts))
    return {hole: ("name", name) for hole, name in zip(template.holes(), new)}


def unlike_values(book, templates):
    """A choice and fillings for which two templates give terms with different values, or None."""
    left = left_in_both(book, templates)
    for names in all_choices(templates[0].choices(), names_that_matter(left), names_of(left)):
        one, other = [flat_parts(book, template, names) for template in templates]
        all_names = binder_names(one + other)
        if are_unlike(one, other, all_names):
            kept = names_needed(all_names, lambda fewer: are_unlike(one, other, fewer))
            return names, fillings_with(templates[0], one + other, kept)
    return None


def are_unlike(one, other, kept):
    """True if two flat bodies have different values with the kept names in their holes."""
    return not have_same_value(text_rows(one, kept), text_rows(other, kept))


def names_needed(names, shows):
    """Some of the names, with which shows still returns True, and none of which can be left out."""
    kept = list(names)
    for name in names:
        fewer = [other for other in kept if other != name]
        if shows(fewer):
            kept = fewer
    return kept


def fillings_with(template, parts, kept):
    """A filling for each hole, with an operator of its own and with uses of the kept names."""
    new = new_names(len(template.holes()), names_of(parts))
    return {hole: tree_of_uses(operator, kept) for hole, operator in zip(template.holes(), new)}


def tree_of_uses(operator, names):
    """A term with uses of the names below one operator."""
    rows = [names[at::MOST_OPERANDS] for at in range(min(len(names), MOST_OPERANDS))]
    inner = [("name", row[0]) if len(row) == 1 else tree_of_uses(operator, row) for row in rows]
    return ("op", operator, tuple(inner))
