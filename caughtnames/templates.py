"""Templates: bodies with a name and parameters."""

from caughtnames.errors import InvalidBody, InvalidCall, InvalidName, InvalidParameters, InvalidProgram
from caughtnames.terms import calls, is_body, is_program
from caughtnames.words import is_name, is_parameter

MOST_HOLES = 3
MOST_CHOICES = 2


class Template:
    """A template, which never changes; called with arguments, it gives a call of itself."""

    def __init__(self, name, parameters, body):
        if not is_name(name):
            raise InvalidName(name)
        if not are_parameters(parameters):
            raise InvalidParameters(parameters)
        if not is_body(body, parameters):
            raise InvalidBody(body)
        self.name = name
        self.parameters = tuple(parameters)
        self.body = body

    def __eq__(self, other):
        if not isinstance(other, Template):
            return False
        return self.name == other.name and self.parameters == other.parameters and self.body == other.body

    def __call__(self, arguments=()):
        if not isinstance(arguments, (list, tuple)) or len(arguments) != len(self.parameters):
            raise InvalidCall(arguments)
        passed = [passed_part(parameter, item) for parameter, item in zip(self.parameters, arguments)]
        return ("call", self.name, tuple(passed))

    def holes(self):
        """The names of the holes, in the order of the parameters."""
        return names_with_sign("?", self.parameters)

    def choices(self):
        """The names of the name parameters, in the order of the parameters."""
        return names_with_sign("$", self.parameters)

    def called(self):
        """The names of the called templates, in the order of text, each as often as it is called."""
        return [call[1] for call in calls(self.body)]


def are_parameters(value):
    """True if value is a list of parameters that one template may have."""
    if not isinstance(value, (list, tuple)) or not all([is_parameter(item) for item in value]):
        return False
    if len(names_with_sign("?", value)) > MOST_HOLES or len(names_with_sign("$", value)) > MOST_CHOICES:
        return False
    return len(set(value)) == len(value)


def names_with_sign(sign, parameters):
    """The names of the parameters that begin with a sign, without it."""
    return [parameter[1:] for parameter in parameters if parameter.startswith(sign)]


def passed_part(parameter, item):
    """What stands in a call for a parameter, if an item is passed for it."""
    if parameter.startswith("?"):
        if not is_program(item):
            raise InvalidProgram(item)
        return item
    if not is_name(item):
        raise InvalidName(item)
    return ("name", item)
