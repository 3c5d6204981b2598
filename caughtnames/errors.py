"""The exceptions of the package: three bases, and the classes directly under them."""


class CaughtError(ValueError):
    """An argument is invalid."""


class AbsentError(KeyError):
    """A name or a number is unknown."""


class StateError(LookupError):
    """Something is not possible now."""


class InvalidName(CaughtError):
    """A value that had to be a name."""

    def __init__(self, value):
        self.value = value


class InvalidTerm(CaughtError):
    """A value that had to be a term."""

    def __init__(self, value):
        self.value = value


class InvalidBody(CaughtError):
    """A value that had to be a body."""

    def __init__(self, value):
        self.value = value


class InvalidProgram(CaughtError):
    """A value that had to be a program."""

    def __init__(self, value):
        self.value = value


class InvalidParameters(CaughtError):
    """A value that had to be a list of parameters."""

    def __init__(self, value):
        self.value = value


class InvalidTemplate(CaughtError):
    """A value that had to be a template."""

    def __init__(self, value):
        self.value = value


class InvalidCall(CaughtError):
    """Arguments that do not fit a template, or a call with such arguments."""

    def __init__(self, value):
        self.value = value


class InvalidBook(CaughtError):
    """A value that had to be a book, or templates that do not make one."""

    def __init__(self, value):
        self.value = value


class InvalidChoice(CaughtError):
    """A value that had to be a choice of names or of binders."""

    def __init__(self, value):
        self.value = value


class InvalidFillings(CaughtError):
    """A value that had to give a term for each hole."""

    def __init__(self, value):
        self.value = value


class InvalidSite(CaughtError):
    """A value that had to be a site."""

    def __init__(self, value):
        self.value = value


class InvalidTables(CaughtError):
    """A value that had to be a dict of tables."""

    def __init__(self, value):
        self.value = value


class InvalidMeaning(CaughtError):
    """A value that gives no meaning, or a name without one."""

    def __init__(self, value):
        self.value = value


class InvalidText(CaughtError):
    """A value that had to be the text of a body, a template or a book."""

    def __init__(self, value):
        self.value = value


class InvalidLine(CaughtError):
    """A value that had to be a line with a command."""

    def __init__(self, value):
        self.value = value


class InvalidLines(CaughtError):
    """A value that had to be a list of lines."""

    def __init__(self, value):
        self.value = value


class InvalidMode(CaughtError):
    """A value that had to be a way to compare."""

    def __init__(self, value):
        self.value = value


class InvalidLetter(CaughtError):
    """A value that had to be a letter."""

    def __init__(self, value):
        self.value = value


class UnlikeParameters(CaughtError):
    """The name of a template whose parameters differ from those of another one."""

    def __init__(self, value):
        self.value = value


class Duplicate(CaughtError):
    """The name of a template that stands twice in a book."""

    def __init__(self, name):
        self.name = name


class Reserved(CaughtError):
    """A name that begins with the letter of the reserved names."""

    def __init__(self, name):
        self.name = name


class TooLarge(CaughtError):
    """A size, a height or a number of rows above its limit."""

    def __init__(self, count):
        self.count = count


class InvalidRow(CaughtError):
    """The index of a line that is wrong in the text of a book."""

    def __init__(self, index):
        self.index = index


class UnknownTemplate(AbsentError):
    """A name that no template has."""

    def __init__(self, name):
        self.name = name


class UnknownHole(AbsentError):
    """A name that no hole of a template has."""

    def __init__(self, name):
        self.name = name


class UnknownBinder(AbsentError):
    """A number that no binder has."""

    def __init__(self, number):
        self.number = number


class StillCalled(StateError):
    """The name of a template that calls the one to be taken away."""

    def __init__(self, name):
        self.name = name


class NothingToUndo(StateError):
    """No edit is left to be taken back."""


class NothingToRedo(StateError):
    """No edit is left to be done again."""
