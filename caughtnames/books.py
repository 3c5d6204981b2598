"""Books: lists of templates, each of which calls only earlier ones."""

from caughtnames.errors import (
    Duplicate, InvalidBook, InvalidCall, InvalidTemplate, StillCalled, UnknownTemplate)
from caughtnames.templates import Template
from caughtnames.terms import calls

MOST_TEMPLATES = 5


def fits(template, call):
    """True if a call has an argument for each parameter of a template, and a use for each name parameter."""
    arguments = call[2]
    if len(arguments) != len(template.parameters):
        return False
    pairs = list(zip(template.parameters, arguments))
    return all([parameter.startswith("?") or argument[0] == "name" for parameter, argument in pairs])


def need_fitting_calls(body, known):
    """Raise UnknownTemplate or InvalidCall for the first wrong call of a body.

    Known is a book, or a dict from names to templates.
    """
    for call in calls(body):
        if call[1] not in known:
            raise UnknownTemplate(call[1])
        if not fits(known[call[1]], call):
            raise InvalidCall(call)


def need_named(book, name):
    """Raise InvalidBook or UnknownTemplate unless book is a book with a template of this name."""
    if not isinstance(book, Book):
        raise InvalidBook(book)
    if name not in book:
        raise UnknownTemplate(name)


def need_templates(templates):
    """Raise what Book raises."""
    if not isinstance(templates, (list, tuple)) or len(templates) > MOST_TEMPLATES:
        raise InvalidBook(templates)
    if not all([isinstance(template, Template) for template in templates]):
        raise InvalidBook(templates)
    names = []
    for template in templates:
        if template.name in names:
            raise Duplicate(template.name)
        names.append(template.name)
    earlier = {}
    for template in templates:
        need_fitting_calls(template.body, earlier)
        earlier[template.name] = template


class Book:
    """A book of templates, which never changes."""

    def __init__(self, templates=()):
        need_templates(templates)
        self.templates = tuple(templates)

    def __eq__(self, other):
        if not isinstance(other, Book):
            return False
        return self.templates == other.templates

    def __len__(self):
        return len(self.templates)

    def __contains__(self, value):
        return value in self.names()

    def __getitem__(self, name):
        for template in self.templates:
            if template.name == name:
                return template
        raise UnknownTemplate(name)

    def __iter__(self):
        raise TypeError("a book is not iterated over: take its names")

    def names(self):
        """The names of the templates, in their order."""
        return [template.name for template in self.templates]

    def with_template(self, template):
        """The book with a template in the place of the one of its name, or else behind all others."""
        if not isinstance(template, Template):
            raise InvalidTemplate(template)
        templates = [template if old.name == template.name else old for old in self.templates]
        if template.name not in self:
            templates.append(template)
        return Book(templates)

    def without(self, name):
        """The book without the template of a name, which no other one calls."""
        if name not in self:
            raise UnknownTemplate(name)
        for template in self.templates:
            if name in template.called():
                raise StillCalled(template.name)
        return Book([template for template in self.templates if template.name != name])
