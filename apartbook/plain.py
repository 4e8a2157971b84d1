"""The plain book: one state, and no houses."""

from apartbook.books import changed_by, copy_of, refuse_broken, starts_of
from apartbook.logs import Log


class Plain:
    def __init__(self, book):
        self.book = copy_of(book)
        self.numbers = starts_of(book)

    def do(self, deed, n):
        numbers = changed_by(self.book, self.numbers, deed, n)
        refuse_broken(self.book, numbers)
        self.numbers = numbers

    def state(self):
        return self.numbers


def state_by(book, rows):
    state = starts_of(book)
    for row in rows:
        if row[3][0] == "do":
            state = changed_by(book, state, row[3][1], row[3][2])
    return state


def keeps_causes(houses, rows):
    log = Log(houses)
    return all([log.take(row) == "taken" for row in rows])
