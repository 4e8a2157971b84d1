"""The refusals: one class each, all straight under BookError."""


class BookError(ValueError):
    pass


class NoText(BookError):
    def __init__(self, place):
        self.place = place


class NoName(BookError):
    def __init__(self, name, place):
        self.name = name
        self.place = place


class NotPlain(BookError):
    def __init__(self, place):
        self.place = place


class NoBook(BookError):
    pass


class Broken(BookError):
    def __init__(self, name):
        self.name = name


class NoLine(BookError):
    def __init__(self, line):
        self.line = line


class NoDeed(BookError):
    def __init__(self, name):
        self.name = name


class NoRule(BookError):
    def __init__(self, name):
        self.name = name


class OutOfRange(BookError):
    pass


class ShortShare(BookError):
    def __init__(self, name, lack):
        self.name = name
        self.lack = lack


class Folded(BookError):
    pass


class NoPaper(BookError):
    def __init__(self, line):
        self.line = line
