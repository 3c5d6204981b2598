"""Terms, bodies and programs: what they are, and what is in them."""

from caughtnames.errors import InvalidBody, InvalidTerm
from caughtnames.words import is_name, is_parameter

MOST_PARTS = 400
GREATEST_DEPTH = 60
MOST_OPERANDS = 3
MOST_ARGUMENTS = 5
TERM_KINDS = ("name", "op", "let", "each")
PROGRAM_KINDS = ("name", "op", "let", "each", "call")
BODY_KINDS = ("name", "op", "let", "each", "call", "hole", "want")
BINDER_KINDS = ("let", "each", "want")
# The least term: what a program is at first, and what is filled in where it does not matter.
PLAIN = ("op", "c", ())


def is_term(value):
    """True if value is a term."""
    return levelled_parts(value, TERM_KINDS, ()) is not None


def is_program(value):
    """True if value is a program."""
    return levelled_parts(value, PROGRAM_KINDS, ()) is not None


def is_body(value, parameters):
    """True if value is a body with the parameters of a list."""
    return levelled_parts(value, BODY_KINDS, parameters) is not None


def size(body):
    """The number of parts of a body."""
    return len(parts_of_body(body))


def depth(body):
    """The number of parts that stand within one another in a body, where it is deepest."""
    return max([level for part, level in parts_of_body(body)])


def uses(body):
    """The names of the uses of a body, in the order of text."""
    return [part[1] for part, level in parts_of_body(body) if part[0] == "name"]


def binders(body):
    """The names of the binders of a body, in the order of text."""
    return [part[1] for part, level in parts_of_body(body) if part[0] in BINDER_KINDS]


def calls(body):
    """The calls of a body, in the order of text."""
    return [part for part, level in parts_of_body(body) if part[0] == "call"]


def parts_of_body(body):
    """The parts of a body with any parameters, as levelled_parts returns them."""
    parts = levelled_parts(body, BODY_KINDS, None)
    if parts is None:
        raise InvalidBody(body)
    return parts


def need_term(value):
    """Raise InvalidTerm if value is no term."""
    if not is_term(value):
        raise InvalidTerm(value)


def levelled_parts(value, kinds, parameters):
    """The parts of value with their levels, in the order of text, or None.

    A part is given as a tuple of the part and its level, which is 1 for value itself.
    None is returned if value is not built of parts of these kinds with these parameters
    (any ones, if parameters is None), or is too large or too deep.
    """
    found = []
    waiting = [(value, 1)]
    while waiting:
        part, level = waiting.pop()
        # The limits are checked on the way, so that a value that has one tuple in many
        # places costs no more steps than the largest body.
        if len(found) == MOST_PARTS or level > GREATEST_DEPTH or not is_part(part, kinds, parameters):
            return None
        found.append((part, level))
        waiting.extend([(inner, level + 1) for inner in parts_within(part)[::-1]])
    return found


def parts_within(part):
    """The parts directly within a part, in the order of text."""
    if part[0] in ("op", "call"):
        return part[2]
    if part[0] in BINDER_KINDS:
        return part[2:]
    return ()


def numbers_within(counts):
    """The list of the numbers of the parts directly within each part.

    The parts are given, in the order of text, by how many parts are directly within them.
    """
    found = []
    open_numbers = []
    # From the last part to the first one, so that the parts within a part are there
    # before it, the first of them at the end of the list.
    for number, many in list(enumerate(counts))[::-1]:
        found.append([open_numbers.pop() for step in range(many)])
        open_numbers.append(number)
    return found[::-1]


def term_of(rows):
    """The term, or body, whose parts are given in the order of text.

    Each part is given by its kind, its name, and the number of parts directly within it.
    """
    built = []
    # From the last part to the first one, as in numbers_within.
    for kind, name, many in rows[::-1]:
        inner = tuple([built.pop() for step in range(many)])
        built.append((kind, name, inner) if kind in ("op", "call") else (kind, name, *inner))
    return built[0]


def is_part(value, kinds, parameters):
    """True if value has the form of a part, whatever stands in the places of the parts within it."""
    if not isinstance(value, tuple) or len(value) < 2 or value[0] not in kinds:
        return False
    kind = value[0]
    if kind == "name":
        return len(value) == 2 and is_name_within(value[1], parameters)
    if kind == "hole":
        return len(value) == 2 and is_name(value[1]) and is_allowed("?" + value[1], parameters)
    if kind == "op":
        return has_row(value, MOST_OPERANDS)
    if kind == "call":
        return has_row(value, MOST_ARGUMENTS)
    if kind == "want":
        return len(value) == 4 and is_name(value[1])
    return len(value) == 4 and is_name_within(value[1], parameters)


def has_row(value, most):
    """True if a name and a tuple of at most so many items follow the kind."""
    return len(value) == 3 and is_name(value[1]) and isinstance(value[2], tuple) and len(value[2]) <= most


def is_name_within(value, parameters):
    """True if value is a name, or a name parameter that is allowed."""
    if is_name(value):
        return True
    return is_parameter(value) and value.startswith("$") and is_allowed(value, parameters)


def is_allowed(parameter, parameters):
    """True if a parameter is one of the parameters, or if any ones are allowed."""
    return parameters is None or parameter in parameters
