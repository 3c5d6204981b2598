"""The texts of terms, bodies and programs."""

from caughtnames.errors import InvalidText
from caughtnames.terms import (
    BODY_KINDS, GREATEST_DEPTH, is_part, levelled_parts, parts_of_body, parts_within)

# What stands ahead of the first part of a binder, and ahead of the second one.
JOINTS = {"let": (" = ", " in "), "want": (" = ", " in "), "each": (" of ", ": ")}
SIGNS = {"hole": "?", "call": "!"}
FIRST_SIGNS = ("?", "!", "$")
BETWEEN = ", "


def term_text(body):
    """The text of a body with any parameters."""
    parts_of_body(body)
    return text_of(body)


def text_of(part):
    """The text of a part of a body."""
    kind = part[0]
    inner = [text_of(other) for other in parts_within(part)]
    if kind in JOINTS:
        middle, last = JOINTS[kind]
        return kind + " " + part[1] + middle + inner[0] + last + inner[1]
    word = SIGNS.get(kind, "") + part[1]
    if kind in ("op", "call"):
        return word + "(" + BETWEEN.join(inner) + ")"
    return word


def read_term(text):
    """The body, with any parameters, that has a text."""
    if not isinstance(text, str):
        raise InvalidText(text)
    body, end = read_part(text, 0, 1)
    if end != len(text) or levelled_parts(body, BODY_KINDS, None) is None:
        raise InvalidText(text)
    return body


def read_part(text, at, level):
    """The part whose text begins at an index, and the index behind its text."""
    # A text of thousands of nestings must not exhaust Python's own stack.
    if level > GREATEST_DEPTH:
        raise InvalidText(text)
    word, end = read_word(text, at)
    if word in JOINTS:
        part, end = read_binder(text, word, end, level)
    elif word.startswith("?"):
        part = ("hole", word[1:])
    elif text.startswith("(", end):
        inner, end = read_row(text, end, level)
        part = ("call", word[1:], inner) if word.startswith("!") else ("op", word, inner)
    else:
        part = ("name", word)
    if not is_part(part, BODY_KINDS, None):
        raise InvalidText(text)
    return part, end


def read_word(text, at):
    """The letters at an index, with a sign ahead of them if one is there, and the index behind them."""
    end = at + 1 if text[at:at + 1] in FIRST_SIGNS else at
    while "a" <= text[end:end + 1] <= "z":
        end += 1
    return text[at:end], end


def read_binder(text, kind, at, level):
    """The binder of this kind whose text goes on at an index, and the index behind it."""
    middle, last = JOINTS[kind]
    name, at = read_word(text, index_behind(text, at, " "))
    first, at = read_part(text, index_behind(text, at, middle), level + 1)
    second, at = read_part(text, index_behind(text, at, last), level + 1)
    return (kind, name, first, second), at


def read_row(text, at, level):
    """The tuple of the parts in the parentheses at an index, and the index behind these."""
    at = index_behind(text, at, "(")
    if text.startswith(")", at):
        return (), at + 1
    part, at = read_part(text, at, level + 1)
    row = [part]
    while text.startswith(BETWEEN, at):
        part, at = read_part(text, at + len(BETWEEN), level + 1)
        row.append(part)
    return tuple(row), index_behind(text, at, ")")


def index_behind(text, at, wanted):
    """The index behind a string that must stand at an index of text."""
    if not text.startswith(wanted, at):
        raise InvalidText(text)
    return at + len(wanted)
