"""Which binder the text gives each use of a term."""

from caughtnames.errors import InvalidChoice, UnknownBinder
from caughtnames.terms import BINDER_KINDS, binders, need_term, parts_within, term_of
from caughtnames.words import is_any_integer, is_name


def scopes(term):
    """The number of the text binder of each use of a term, or None, in the order of text."""
    return [around.get(part[1]) for part, around in scoped_parts(term) if part[0] == "name"]


def free_names(term):
    """The names of the uses that have no text binder, in ascending order."""
    free = [part[1] for part, around in scoped_parts(term) if part[0] == "name" and part[1] not in around]
    return sorted(set(free))


def alike_terms(one, other):
    """True if two terms differ at most in the names of binders and of the uses that these bind."""
    return shapes(one) == shapes(other)


def with_names(term, names):
    """The term in which the binders with some numbers, and their uses, have other names."""
    need_term(term)
    if not is_naming(names):
        raise InvalidChoice(names)
    count = len(binders(term))
    unknown = [number for number in names if not 0 <= number < count]
    if unknown:
        raise UnknownBinder(min(unknown))
    changed = renamed_term(term, names)
    if scopes(changed) != scopes(term):
        raise InvalidChoice(names)
    return changed


def is_naming(names):
    """True if names is a dict from integers to names."""
    if not isinstance(names, dict):
        return False
    return all([is_any_integer(number) and is_name(name) for number, name in names.items()])


def renamed_term(term, names):
    """The term with other names for some binders and their uses, whatever these names catch."""
    rows = []
    number = 0
    for part, around in scoped_parts(term):
        name = part[1]
        if part[0] in BINDER_KINDS:
            name = names.get(number, name)
            number += 1
        elif part[0] == "name":
            name = names.get(around.get(name), name)
        rows.append((part[0], name, len(parts_within(part))))
    return term_of(rows)


def shapes(term):
    """What is equal for two parts at the same place of alike terms, for each part in the order of text."""
    return [shape(part, around) for part, around in scoped_parts(term)]


def shape(part, around):
    """What alike terms have in common at the place of a part."""
    if part[0] in BINDER_KINDS:
        return (part[0],)
    if part[0] == "name":
        return ("name", around.get(part[1], part[1]))
    return ("op", part[1], len(part[2]))


def scoped_parts(term):
    """What parts_with_scopes returns, for a term only."""
    need_term(term)
    return parts_with_scopes(term)


def parts_with_scopes(body):
    """The parts of a body in the order of text, each with the scope in which it stands.

    A scope is a dict from the names that have a binder around the part to the number of
    the innermost such binder.
    """
    found = []
    number = 0
    waiting = [(body, {})]
    while waiting:
        part, around = waiting.pop()
        found.append((part, around))
        if part[0] in BINDER_KINDS:
            waiting.append((part[3], {**around, part[1]: number}))
            waiting.append((part[2], around))
            number += 1
        else:
            waiting.extend([(inner, around) for inner in parts_within(part)[::-1]])
    return found
