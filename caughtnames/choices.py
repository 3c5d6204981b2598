"""Choices of names for the name parameters of a template, and names that are new."""

from caughtnames.words import is_name

LETTERS = "abcdefghijklmnopqrstuvwxyz"


def is_choice(value, choices):
    """True if value is a dict that has a name for each of these name parameters, and no other key."""
    if not isinstance(value, dict) or len(value) != len(choices):
        return False
    return all([choice in value and is_name(value[choice]) for choice in choices])


def new_names(count, taken, start=""):
    """So many names that begin with start and are not taken, shorter ones first."""
    known = {name: True for name in taken}
    found = []
    words = [start]
    while len(found) < count:
        found.extend([word for word in words if is_name(word) and word not in known])
        words = [word + letter for word in words for letter in LETTERS]
    return found[:count]


def fresh_choice(choices, names):
    """The choice of names that are different, and are none of these."""
    return dict(zip(choices, new_names(len(choices), names)))


def near_choices(choices, names, taken):
    """The choice of different new names, and those that differ from it in the name for one parameter.

    This one is one of the names, or the new name for another parameter. New names are none
    of those that are taken.
    """
    fresh = fresh_choice(choices, taken)
    others = sorted(set(names)) + list(fresh.values())
    return [fresh] + [{**fresh, choice: name} for choice in choices for name in others if name != fresh[choice]]


def all_choices(choices, names, taken):
    """Choices from exactly one of which each choice arises by other names for those that are none of these.

    New names are none of those that are taken.
    """
    listed = sorted(set(names))
    fresh = new_names(len(choices), taken)
    found = [{}]
    for choice in choices:
        longer = []
        for chosen in found:
            used = [name for name in fresh if name in list(chosen.values())]
            options = listed + fresh[:len(used) + 1]
            longer.extend([{**chosen, choice: name} for name in options])
        found = longer
    return found
