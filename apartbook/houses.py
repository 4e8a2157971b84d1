"""Houses: copies of one book, each spending its own shares alone.

A share is a house's part of what a counted rule has to spare.
"""

from apartbook.books import changed_by, copy_of, gained_by, has_number, place_of, spare, starts_of
from apartbook.deals import dealt
from apartbook.errors import Folded, NoDeed, NoRule, OutOfRange, ShortShare
from apartbook.logs import Log
from apartbook.rules import counted


# What comes of some rows: their counts, the state, the shares by the places of
# the counted rules, and what each house had taken behind its last row. A house
# keeps one of all rows taken and one of those folded, as these are gone.
class Tally:
    def __init__(self, reached, numbers, parts, known):
        self.reached = list(reached)
        self.numbers = tuple(numbers)
        self.parts = parts
        self.known = list(known)

    def twin(self):
        parts = {}
        for rule in self.parts:
            parts[rule] = list(self.parts[rule])
        return Tally(self.reached, self.numbers, parts, self.known)

    def take_row(self, book, row):
        self.reached[row[0]] += 1
        self.known[row[0]] = known_by(row)
        if row[3][0] == "do":
            self.take_do(book, row[0], row[3])
        else:
            self.take_give(row[0], row[3])

    def take_do(self, book, house, deed):
        self.numbers = changed_by(book, self.numbers, deed[1], deed[2])
        for rule in list(self.parts):
            self.parts[rule][house] += gained_by(book, rule, deed[1], deed[2])

    def take_give(self, house, deed):
        self.parts[deed[1]][house] -= deed[3]
        self.parts[deed[1]][deed[2]] += deed[3]


class House:
    def __init__(self, book, weights, own):
        self.book = copy_of(book)
        self.own = own
        self.houses = len(weights)
        self.begin(first_tally(self.book, weights))

    def begin(self, tally):
        self.folded = tally
        self.now = tally.twin()
        self.log = Log(self.houses)
        self.log.begin(tally.reached)

    def state(self):
        return self.now.numbers

    def shares(self, rule):
        return list(self.now.parts[rule]) if rule in self.now.parts else None

    def do(self, name, n):
        deed = place_of(self.book[2], name)
        if deed is None:
            raise NoDeed(name)
        if not has_number(self.book, deed, n):
            raise OutOfRange()
        for rule in self.now.parts:
            self.refuse_short(rule, gained_by(self.book, rule, deed, n))
        return self.made(("do", deed, n))

    def give(self, name, to, amount):
        rule = self.counted_place(name)
        if rule is None:
            raise NoRule(name)
        if not self.is_other(self.own, to) or amount < 1:
            raise OutOfRange()
        self.refuse_short(rule, -amount)
        return self.made(("give", rule, to, amount))

    def counted_place(self, name):
        rule = place_of(self.book[1], name)
        return rule if rule in self.now.parts else None

    def is_other(self, house, to):
        return 0 <= to < self.houses and to != house

    def refuse_short(self, rule, gained):
        left = self.now.parts[rule][self.own] + gained
        if left < 0:
            raise ShortShare(self.book[1][rule][0], -left)

    def made(self, deed):
        counts = self.counts()
        row = (self.own, counts[self.own], counts, deed)
        self.hear(row)
        return row

    def hear(self, row):
        before = len(self.log.rows())
        answer = self.log.take(row)
        # One row that is taken may let others be taken that waited for it.
        for taken in self.log.rows()[before:]:
            self.now.take_row(self.book, taken)
        return answer

    def counts(self):
        return self.log.counts()

    def waiting(self):
        return self.log.waiting()

    def rows(self):
        return self.log.rows()

    def letter(self, counts):
        if any([count < folded for count, folded in zip(counts, self.base())]):
            raise Folded()
        return [row for row in self.rows() if row[1] >= counts[row[0]]]

    def surely(self, house):
        return self.counts() if house == self.own else self.now.known[house]

    def fold(self):
        known = [self.surely(house) for house in range(self.houses)]
        least = [min([counts[house] for counts in known]) for house in range(self.houses)]
        rows = [row for row in self.rows() if row[1] < least[row[0]]]
        for row in rows:
            self.folded.take_row(self.book, row)
        self.log.drop(least)
        return len(rows)

    def base(self):
        return tuple(self.folded.reached)


def first_tally(book, weights):
    noughts = (0,) * len(weights)
    starts = starts_of(book)
    parts = {}
    for rule in counted(book):
        parts[rule] = dealt(spare(book, rule, starts), weights)
    return Tally(noughts, starts, parts, [noughts] * len(weights))


def known_by(row):
    # The doer had taken the causes of its row, and then the row itself.
    return row[2][:row[0]] + (row[1] + 1,) + row[2][row[0] + 1:]
