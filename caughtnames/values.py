"""The value of a term: all its lets unfolded; and a term evaluated with a given meaning."""

from caughtnames.errors import InvalidMeaning
from caughtnames.links import Linked, have_same_value
from caughtnames.scopes import scoped_parts
from caughtnames.terms import BINDER_KINDS, parts_within


def value_rows(term):
    """The value of a term as a list of rows, one for each different part of it."""
    return Unfolding(term).rows_of_value()


def same_value(one, other):
    """True if the values of two terms are equal."""
    first = linked_rows(one)
    return have_same_value(first, linked_rows(other))


def evaluate(term, functions, values, *, each=None):
    """What a term gives with functions for its operators and its eaches, and values for its free names."""
    need_meaning(term, functions, values, each)

    def result(part, held):
        kind = part[0]
        if kind == "name":
            return held[part[1]] if part[1] in held else values[part[1]]
        if kind == "op":
            function = functions[part[1]]
            return function([result(inner, held) for inner in part[2]])
        first = result(part[2], held)
        if kind == "let":
            return result(part[3], {**held, part[1]: first})
        return each(first, lambda bound: result(part[3], {**held, part[1]: bound}))

    return result(term, {})


def need_meaning(term, functions, values, each):
    """Raise what evaluate raises."""
    parts = scoped_parts(term)
    for meanings in (functions, values):
        if not isinstance(meanings, dict):
            raise InvalidMeaning(meanings)
    for part, around in parts:
        kind, name = part[:2]
        if kind == "op" and name not in functions:
            raise InvalidMeaning(name)
        if kind == "name" and name not in around and name not in values:
            raise InvalidMeaning(name)
        if kind == "each" and each is None:
            raise InvalidMeaning(None)


def linked_rows(term):
    """The parts of a term, as Linked takes them, each use linked to its text binder."""
    scoped = scoped_parts(term)
    places = [at for at, (part, around) in enumerate(scoped) if part[0] in BINDER_KINDS]
    rows = []
    for part, around in scoped:
        number = around.get(part[1]) if part[0] == "name" else None
        rows.append((part[0], part[1], len(parts_within(part)), None if number is None else places[number]))
    return rows


class Unfolding(Linked):
    """The rows of the value of a term, which are found without writing the value out.

    The parts of the term have numbers, in the order of text. A part may stand in many
    places of the value, as lets are unfolded. What it is there depends only on how far
    from there the eaches are that it asks for: those around it to which uses in its value
    belong. So it is looked at once for each different list of these distances.
    """

    def __init__(self, term):
        super().__init__(linked_rows(term))
        self.known = {}
        self.listed = []
        self.indexes = {}

    def rows_of_value(self):
        """The rows of the value of the whole term."""
        waiting = [(0, {}, 0, False)]
        while waiting:
            number, levels, depth, is_ready = waiting.pop()
            key = self.key(number, levels, depth)
            if key in self.known:
                continue
            inner = self.inner_places(number, levels, depth)
            if is_ready:
                indexes = [self.known[self.key(*place)] for place in inner]
                self.known[key] = self.index_of_value(number, key, indexes)
            else:
                waiting.append((number, levels, depth, True))
                waiting.extend([(*place, False) for place in inner[::-1]])
        return list(self.listed)

    def key(self, number, levels, depth):
        """A part, and the distances of the eaches that it asks for from a place of it."""
        return (number, tuple([depth - levels[each] for each in self.asked[number]]))

    def inner_places(self, number, levels, depth):
        """The parts that make the value of a part in a place, each with its place.

        A place is given by the number of eaches around it in the value, depth, and by
        levels, a dict with the number of eaches around each of these.
        """
        places = [(inner, levels, depth) for inner in self.needed(number)]
        if self.parts[number][0] == "each":
            places[1] = (places[1][0], {**levels, number: depth}, depth + 1)
        return places

    def index_of_value(self, number, key, indexes):
        """The index of the row for a part, when those of the parts that make its value are known."""
        kind, name = self.parts[number]
        if kind == "op":
            return self.index_of_row(("op", name, tuple(indexes)))
        if kind == "each":
            return self.index_of_row(("each", indexes[0], indexes[1]))
        if self.is_bound(number):
            return self.index_of_row(("bound", key[1][0] - 1))
        return indexes[0] if indexes else self.index_of_row(("free", name))

    def index_of_row(self, row):
        """The index of a row, which is put behind all others if it is a new one."""
        if row not in self.indexes:
            self.indexes[row] = len(self.listed)
            self.listed.append(row)
        return self.indexes[row]
