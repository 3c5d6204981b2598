"""The fewest renamings of binders that undo all catches of an expanded program."""

from caughtnames.catches import range_of_binders, with_new_binders
from caughtnames.errors import InvalidChoice, UnknownBinder
from caughtnames.expansion import written_program
from caughtnames.words import is_any_integer
from caughtnames.written import meant_binder


def fewest_renames(book, program):
    """The numbers of the fewest binders to rename, the forced ones, and groups of which all but one are renamed."""
    return fewest_for(written_program(book, program))


def renamed(book, program, numbers=None):
    """The expanded program, in which the binders with some numbers are renamed."""
    parts = written_program(book, program)
    if numbers is None:
        return with_new_binders(parts, fewest_for(parts)[0])
    if not are_different_integers(numbers):
        raise InvalidChoice(numbers)
    known = range_of_binders(parts)
    for number in numbers:
        if number not in known:
            raise UnknownBinder(number)
    return with_new_binders(parts, numbers)


def shows_fewest(book, program, thing):
    """True if thing is a tuple that fewest_renames could return."""
    parts = written_program(book, program)
    if not isinstance(thing, tuple) or len(thing) != 3 or not isinstance(thing[2], list):
        return False
    numbers, forced, groups = thing
    if not all([is_ascending_list(row) for row in (numbers, forced, *groups)]):
        return False
    outer = outer_clashes(parts)
    if forced != forced_binders(parts) or not are_groups(groups, forced, outer):
        return False
    if not undoes_catches(numbers, forced, outer):
        return False
    return len(numbers) == len(forced) + sum([len(group) - 1 for group in groups])


def fewest_for(parts):
    """What fewest_renames returns, for the parts of the expanded program."""
    forced = forced_binders(parts)
    outer = outer_clashes(parts)
    renamed_ones = list(forced)
    groups = []
    # The inner binders come first. Those further out that clash with one of them clash
    # with one another as well: a group, of which at least all but one are renamed. It is
    # the inner one that keeps its name, as it clashes with nothing else that is left.
    for number in sorted(list(outer), reverse=True):
        if number not in renamed_ones:
            others = [other for other in outer[number] if other not in renamed_ones]
            renamed_ones.extend(others)
            if others:
                groups.append(sorted([number, *others]))
    return sorted(renamed_ones), forced, groups


def binders_in_the_way(part):
    """The meant binder of a use, and the binders that are in its way."""
    meant = meant_binder(part.above, part.name, part.writer)
    inside = part.above if meant is None else part.above[part.above.index(meant) + 1:]
    return meant, [binder for binder in inside if binder.name == part.name]


def forced_binders(parts):
    """The numbers of the forced binders, in ascending order."""
    found = []
    for part in parts:
        if part.kind == "name":
            meant, others = binders_in_the_way(part)
            if meant is None:
                found.extend([binder.number for binder in others])
    return sorted(set(found))


def outer_clashes(parts):
    """For the numbers of binders, the numbers of those further out with which they clash."""
    found = {}
    for part in parts:
        if part.kind == "name":
            meant, others = binders_in_the_way(part)
            for binder in others:
                if meant is not None and meant.number not in found.setdefault(binder.number, []):
                    found[binder.number].append(meant.number)
    return found


def are_different_integers(value):
    """True if value is a list of different integers."""
    if not isinstance(value, (list, tuple)) or not all([is_any_integer(item) for item in value]):
        return False
    return len(set(value)) == len(value)


def is_ascending_list(value):
    """True if value is a list, and no tuple, of integers each of which is greater than the one before."""
    if not isinstance(value, list) or not are_different_integers(value):
        return False
    return value == sorted(value)


def are_groups(groups, forced, outer):
    """True if some ascending lists are groups of two or more binders, each two of which clash."""
    members = [number for group in groups for number in group] + forced
    if len(set(members)) != len(members):
        return False
    for group in groups:
        pairs = [(group[low], high) for at, high in enumerate(group) for low in range(at)]
        if not pairs or not all([low in outer.get(high, []) for low, high in pairs]):
            return False
    return True


def undoes_catches(numbers, forced, outer):
    """True if renaming the binders with some numbers undoes all catches."""
    pairs = [(low, high) for high in outer for low in outer[high]]
    return all([number in numbers for number in forced]) and all(
        [low in numbers or high in numbers for low, high in pairs])
