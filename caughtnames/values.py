"""The value of a term: all its lets unfolded; and a term evaluated with a given meaning."""

from caughtnames.errors import InvalidMeaning
from caughtnames.scopes import scoped_parts
from caughtnames.terms import BINDER_KINDS, parts_within


def value_rows(term):
    """The value of a term as a list of rows, one for each different part of it."""
    return Unfolding(term).rows_of_value()


def same_value(one, other):
    """True if the values of two terms are equal."""
    first = value_rows(one)
    return first == value_rows(other)


def evaluate(term, functions, values, *, each=None):
    """What a term gives with functions for its operators and its eaches, and values for its free names."""
    need_meaning(term, functions, values, each)

    def result(part, held):
        kind = part[0]
        if kind == "name":
            return held[part[1]] if part[1] in held else values[part[1]]
        if kind == "op":
            function = functions[part[1]]
            return function([result(inner, held) for inner in part[2]])
        first = result(part[2], held)
        if kind == "let":
            return result(part[3], {**held, part[1]: first})
        return each(first, lambda bound: result(part[3], {**held, part[1]: bound}))

    return result(term, {})


def need_meaning(term, functions, values, each):
    """Raise what evaluate raises."""
    parts = scoped_parts(term)
    for meanings in (functions, values):
        if not isinstance(meanings, dict):
            raise InvalidMeaning(meanings)
    for part, around in parts:
        kind, name = part[:2]
        if kind == "op" and name not in functions:
            raise InvalidMeaning(name)
        if kind == "name" and name not in around and name not in values:
            raise InvalidMeaning(name)
        if kind == "each" and each is None:
            raise InvalidMeaning(None)


def numbers_within(parts):
    """The list of the numbers of the parts directly within each part of a list in the order of text."""
    found = []
    open_numbers = []
    # From the last part to the first one, as in term_of.
    for number, part in list(enumerate(parts))[::-1]:
        found.append([open_numbers.pop() for inner in parts_within(part)])
        open_numbers.append(number)
    return found[::-1]


class Unfolding:
    """The rows of the value of a term, which are found without writing the value out.

    The parts of the term have numbers, in the order of text. A part may stand in many
    places of the value, as lets are unfolded. What it is there depends only on how far
    from there the eaches are that it asks for: those around it to which uses in its value
    belong. So it is looked at once for each different list of these distances.
    """

    def __init__(self, term):
        scoped = scoped_parts(term)
        self.parts = [part for part, around in scoped]
        self.inner = numbers_within(self.parts)
        places = [number for number, part in enumerate(self.parts) if part[0] in BINDER_KINDS]
        binders = [around.get(part[1]) if part[0] == "name" else None for part, around in scoped]
        # The number of the part that is the text binder of a use, or None.
        self.binder = [None if number is None else places[number] for number in binders]
        self.asked = self.asked_eaches()
        self.known = {}
        self.listed = []
        self.indexes = {}

    def asked_eaches(self):
        """For each part, the numbers of the eaches that it asks for, in ascending order."""
        asked = [()] * len(self.parts)
        for number in self.numbers_by_end():
            eaches = [each for inner in self.needed(number) for each in asked[inner]]
            if self.is_bound(number):
                eaches = [self.binder[number]]
            asked[number] = tuple(sorted(set([each for each in eaches if each != number])))
        return asked

    def numbers_by_end(self):
        """The numbers of the parts, in the order in which the parts end in the text."""
        found = []
        waiting = [0]
        while waiting:
            number = waiting.pop()
            found.append(number)
            waiting.extend(self.inner[number])
        return found[::-1]

    def needed(self, number):
        """The numbers of the parts whose values make the value of a part, in order."""
        kind = self.parts[number][0]
        if kind == "let":
            return self.inner[number][1:]
        if kind == "name" and self.binder[number] is not None and not self.is_bound(number):
            return self.inner[self.binder[number]][:1]
        return self.inner[number]

    def is_bound(self, number):
        """True if a part is a use whose text binder is an each."""
        binder = self.binder[number]
        return binder is not None and self.parts[binder][0] == "each"

    def rows_of_value(self):
        """The rows of the value of the whole term."""
        waiting = [(0, {}, 0, False)]
        while waiting:
            number, levels, depth, is_ready = waiting.pop()
            key = self.key(number, levels, depth)
            if key in self.known:
                continue
            inner = self.inner_places(number, levels, depth)
            if is_ready:
                indexes = [self.known[self.key(*place)] for place in inner]
                self.known[key] = self.index_of_value(number, key, indexes)
            else:
                waiting.append((number, levels, depth, True))
                waiting.extend([(*place, False) for place in inner[::-1]])
        return list(self.listed)

    def key(self, number, levels, depth):
        """A part, and the distances of the eaches that it asks for from a place of it."""
        return (number, tuple([depth - levels[each] for each in self.asked[number]]))

    def inner_places(self, number, levels, depth):
        """The parts that make the value of a part in a place, each with its place.

        A place is given by the number of eaches around it in the value, depth, and by
        levels, a dict with the number of eaches around each of these.
        """
        places = [(inner, levels, depth) for inner in self.needed(number)]
        if self.parts[number][0] == "each":
            places[1] = (places[1][0], {**levels, number: depth}, depth + 1)
        return places

    def index_of_value(self, number, key, indexes):
        """The index of the row for a part, when those of the parts that make its value are known."""
        kind, name = self.parts[number][:2]
        if kind == "op":
            return self.index_of_row(("op", name, tuple(indexes)))
        if kind == "each":
            return self.index_of_row(("each", indexes[0], indexes[1]))
        if self.is_bound(number):
            return self.index_of_row(("bound", key[1][0] - 1))
        return indexes[0] if indexes else self.index_of_row(("free", name))

    def index_of_row(self, row):
        """The index of a row, which is put behind all others if it is a new one."""
        if row not in self.indexes:
            self.indexes[row] = len(self.listed)
            self.listed.append(row)
        return self.indexes[row]
