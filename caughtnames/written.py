"""The parts of expanded bodies, each with the writer of its name and the binders around it."""

from caughtnames.terms import BINDER_KINDS, parts_within, term_of

# The writer of the body that is expanded, and the one of the call of it. The other writers
# are the calls that are replaced, with numbers from 1.
BODY_WRITER = 0
CALLER = -1


class Binder:
    """A binder of an expanded body.

    It has its number among the binders and its place among the parts. The asker of a wanted
    binder is the writer of the call that it belongs to; other binders have none.
    """

    def __init__(self, number, place, kind, name, writer, asker):
        self.number = number
        self.place = place
        self.kind = kind
        self.name = name
        self.writer = writer
        self.asker = asker

    def serves(self, writer):
        """True if it binds the uses of its name which a writer wrote."""
        return writer in (self.writer, self.asker)


class Part:
    """A part of an expanded body, with the number of parts directly within it.

    The binders around it are given with the outermost one first.
    """

    def __init__(self, kind, name, many, writer, above):
        self.kind = kind
        self.name = name
        self.many = many
        self.writer = writer
        self.above = above


class Frame:
    """A body that is put in: its writer, the writer of its call, and what is passed to it.

    What is passed is a dict. It has a tuple of the name and its writer for a name parameter.
    For a hole it has the argument together with the frame in which the call stands, so that
    a call in an argument that is put nowhere is not replaced.
    """

    def __init__(self, writer, asker, passed):
        self.writer = writer
        self.asker = asker
        self.passed = passed

    def written(self, name):
        """A name of the body, as it is put in, and its writer."""
        return self.passed.get(name, (name, self.writer))

    def frame_for(self, template, call, writer):
        """The frame of the body of a template that is put in for a call."""
        passed = {}
        for parameter, argument in zip(template.parameters, call[2]):
            passed[parameter] = (argument, self) if parameter.startswith("?") else self.written(argument[1])
        return Frame(writer, self.writer, passed)


def written_parts(book, body, passed):
    """The parts of an expanded body in the order of text.

    What is passed for the name parameters of the body is given as in a frame. Its own holes
    are left in their places.
    """
    found = []
    calls = binders = 0
    waiting = [(body, Frame(BODY_WRITER, CALLER, passed), ())]
    while waiting:
        part, frame, above = waiting.pop()
        kind = part[0]
        if kind == "call":
            calls += 1
            template = book[part[1]]
            waiting.append((template.body, frame.frame_for(template, part, calls), above))
        elif kind == "hole" and "?" + part[1] in frame.passed:
            waiting.append((*frame.passed["?" + part[1]], above))
        else:
            within = parts_within(part)
            inside = [above] * len(within)
            name, writer = frame.written(part[1])
            if kind in BINDER_KINDS:
                asker = frame.asker if kind == "want" else None
                inside[1] = (*above, Binder(binders, len(found), kind, name, writer, asker))
                binders += 1
            found.append(Part(kind, name, len(within), writer, above))
            waiting.extend([(inner, frame, around) for inner, around in list(zip(within, inside))[::-1]])
    return found


def text_binder(above, name):
    """The innermost of the binders of a name, which is the text binder of its uses there, or None."""
    for binder in above[::-1]:
        if binder.name == name:
            return binder
    return None


def meant_binder(above, name, writer):
    """The innermost of the binders that bind the uses of a name and a writer, or None."""
    for binder in above[::-1]:
        if binder.name == name and binder.serves(writer):
            return binder
    return None


def number_of(binder):
    """The number of a binder, None for None."""
    return None if binder is None else binder.number


def written_term(parts, names):
    """The term of some parts, in which the binders with some numbers, and the uses that mean them, have other names."""
    rows = []
    number = 0
    for part in parts:
        name = part.name
        if part.kind in BINDER_KINDS:
            name = names.get(number, name)
            number += 1
        elif part.kind == "name":
            name = names.get(number_of(meant_binder(part.above, name, part.writer)), name)
        rows.append(("let" if part.kind == "want" else part.kind, name, part.many))
    return term_of(rows)


def flat_parts(book, template, names):
    """The parts of the flat body of a template, for a choice of names that its caller passes."""
    return written_parts(book, template.body, {"$" + choice: (names[choice], CALLER) for choice in names})


def left_parts(book, template):
    """The parts of the flat body of a template, with its name parameters left in their places."""
    return flat_parts(book, template, {choice: "$" + choice for choice in template.choices()})
