"""Parts that are linked to the parts within them and to their binders, and what their values have in common."""

from caughtnames.terms import numbers_within


class Linked:
    """The parts of a term, linked to the parts that make their values.

    Each part is given, in the order of text, by its kind, its name, how many parts are
    directly within it, and the number of the part that is its binder, or None. The binder
    of a use is any binder around it, not always the one that the text gives it. Kinds
    other than those of a term are looked at like applications.
    """

    def __init__(self, rows):
        self.parts = [row[:2] for row in rows]
        self.inner = numbers_within([row[2] for row in rows])
        self.binder = [row[3] for row in rows]
        self.asked = self.asked_eaches()

    def asked_eaches(self):
        """For each part, the numbers of the eaches that its value asks for, in ascending order."""
        asked = [()] * len(self.parts)
        for number in self.numbers_by_end():
            eaches = [each for inner in self.needed(number) for each in asked[inner]]
            if self.is_bound(number):
                eaches = [self.binder[number]]
            asked[number] = tuple(sorted(set([each for each in eaches if each != number])))
        return asked

    def numbers_by_end(self):
        """The numbers of the parts, in the order in which the parts end in the text."""
        found = []
        waiting = [0]
        while waiting:
            number = waiting.pop()
            found.append(number)
            waiting.extend(self.inner[number])
        return found[::-1]

    def needed(self, number):
        """The numbers of the parts whose values make the value of a part, in order."""
        kind = self.parts[number][0]
        if kind == "let":
            return self.inner[number][1:]
        if kind == "name" and self.binder[number] is not None and not self.is_bound(number):
            return self.inner[self.binder[number]][:1]
        return self.inner[number]

    def is_bound(self, number):
        """True if a part is a use whose binder is an each."""
        binder = self.binder[number]
        return binder is not None and self.parts[binder][0] == "each"

    def form(self, known):
        """The number of the form of the whole value: equal values have equal forms.

        Known is a dict of the forms found so far, and is added to. The form of a part
        has, for each part that makes its value, the form of that one, and which of the
        asked eaches it asks for. No path through a value comes to an each twice, and it
        comes to the outer ones first; so parts with equal values ask for corresponding
        eaches in the same order, and there is one form for each part, however often the
        value has it.
        """
        forms = [0] * len(self.parts)
        for number in self.numbers_by_end():
            kind = self.parts[number][0]
            if kind == "let" or (kind == "name" and self.needed(number)):
                forms[number] = forms[self.needed(number)[0]]
            else:
                forms[number] = known.setdefault(self.form_key(number, forms, known), len(known))
        return forms[0]

    def form_key(self, number, forms, known):
        """What is equal for parts of the same form that are no lets, and no uses of lets."""
        kind, name = self.parts[number]
        if self.is_bound(number):
            return ("bound",)
        places = {each: at for at, each in enumerate(self.asked[number])}
        row = []
        for inner in self.inner[number]:
            # What is no place among the asked eaches is the part itself, an each.
            asked = tuple([places.get(each, -1) for each in self.asked[inner]])
            row.append((forms[inner], asked))
        if kind == "hole":
            uses = [self.parts[inner][1] for inner in self.inner[number]]
            # What stands for itself there is the same as what no binder is around.
            row = [(use, *form) for use, form in zip(uses, row) if form[0] != known.get(free_key(use))]
        return (kind, "" if kind == "each" else name, tuple(row))


def free_key(name):
    """The form_key of a use without a binder."""
    return ("name", name, ())


def have_same_value(one, other):
    """True if the values of the parts of two lists, as Linked takes them, are equal."""
    known = {}
    return Linked(one).form(known) == Linked(other).form(known)
