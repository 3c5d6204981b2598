"""Terms, bodies and programs made by chance, always the same ones for the same seed."""

import random

from caughtnames.books import Book
from caughtnames.templates import Template


class Chance:
    """Makes bodies with some names, some parameters, and calls of some templates.

    Templates is a list of tuples of a name and a list of parameters.
    """

    def __init__(self, seed, names="abxy", parameters=(), templates=(), wanted=False):
        self.random = random.Random(seed)
        self.names = list(names)
        self.parameters = list(parameters)
        self.templates = list(templates)
        self.wanted = wanted

    def name(self):
        return self.random.choice(self.names)

    def name_within(self):
        """A name, or a name parameter."""
        chosen = [item for item in self.parameters if item.startswith("$")]
        return self.random.choice(chosen) if chosen and self.random.random() < 0.4 else self.name()

    def leaf(self):
        holes = [item[1:] for item in self.parameters if item.startswith("?")]
        if holes and self.random.random() < 0.5:
            return ("hole", self.random.choice(holes))
        return ("name", self.name_within()) if self.random.random() < 0.9 else ("op", "c", ())

    def shares(self, many, count):
        """So many numbers from 1, with this sum or more."""
        cuts = sorted(self.random.randrange(many + 1) for _ in range(count - 1))
        return [max(1, high - low) for low, high in zip([0] + cuts, cuts + [many])]

    def body(self, many, levels=20):
        """A body with about so many parts, and with at most so many levels."""
        if many <= 1 or levels == 1:
            return self.leaf()
        kinds = ["op", "op", "let", "let", "each"] + ["call"] * (2 * bool(self.templates)) + ["want"] * self.wanted
        kind = self.random.choice(kinds)
        if kind == "call":
            return self.call(many, levels)
        if kind == "op":
            shares = self.shares(many - 1, self.random.choice([1, 2, 2, 3]))
            return ("op", self.random.choice("fg"), tuple(self.body(share, levels - 1) for share in shares))
        first, second = self.shares(many - 1, 2)
        name = self.name() if kind == "want" else self.name_within()
        return (kind, name, self.body(first, levels - 1), self.body(second, levels - 1))

    def call(self, many, levels):
        name, parameters = self.random.choice(self.templates)
        shares = self.shares(many - 1, len(parameters)) if parameters else []
        return ("call", name, tuple(
            self.body(share, levels - 1) if parameter.startswith("?") else ("name", self.name_within())
            for parameter, share in zip(parameters, shares)))


def book_and_program(seed, many=8, most=20):
    """A book, and a program that calls its templates."""
    chance = Chance(seed, wanted=True)
    signs = chance.random
    templates = []
    for name in "tuvwk"[:signs.randrange(1, 6)]:
        parameters = ["?h", "?k", "?m"][:signs.choice([0, 1, 1, 2, 3])] + ["$n", "$p"][:signs.choice([0, 0, 1, 2])]
        signs.shuffle(parameters)
        chance.parameters = parameters
        templates.append(Template(name, parameters, chance.body(signs.randrange(1, many))))
        chance.templates.append((name, parameters))
    chance.parameters, chance.wanted = [], False
    return Book(templates), chance.body(signs.randrange(1, most))
