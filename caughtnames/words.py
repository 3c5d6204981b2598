"""Integers, names, parameters, and the words of a line."""

KEYWORDS = ("let", "in", "each", "of", "want")
LONGEST_NAME = 6


def is_integer(value, low, high):
    """True if value is an integer from low to high; True and False are none."""
    return is_any_integer(value) and low <= value <= high


def is_any_integer(value):
    """True if value is an integer, however great; True and False are none."""
    return isinstance(value, int) and not isinstance(value, bool)


def is_name(value):
    """True if value is a string of one to six letters from a to z, but no keyword."""
    if not isinstance(value, str) or len(value) > LONGEST_NAME or value in KEYWORDS:
        return False
    return value.isascii() and value.isalpha() and value.islower()


def is_parameter(value):
    """True if value is a hole or a name parameter: a sign and a name."""
    return isinstance(value, str) and value[:1] in ("?", "$") and is_name(value[1:])


def parse_integer(text, *, low=0, high=999):
    """The integer from low to high that text represents, or None."""
    if not isinstance(text, str) or not text.isascii() or not text.isdigit():
        return None
    if text.startswith("0") and text != "0":
        return None
    # Python does not convert strings of thousands of digits. As there are no leading
    # zeros here, more digits than high has mean a greater number.
    if len(text) > len(str(high)):
        return None
    number = int(text)
    return number if low <= number <= high else None


def split_words(text):
    """The words of text, which are separated by exactly one space each, or None."""
    if not isinstance(text, str) or "\n" in text:
        return None
    words = text.split(" ")
    return None if "" in words else words
