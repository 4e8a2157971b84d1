"""Points 1, 2 and 17 to 22 over the whole: houses that do, hand on, send, lose, fold and fall in any order."""

import random
import unittest

from apartbook.houses import House
from apartbook.papers import paper_of, risen
from apartbook.plain import Plain, keeps_causes, state_by

from helper import PlainHouse, any_book, outcome, spare_at, told_by


class Street:
    """Some houses of one book, each beside a plain one that is told the same, and the letters in the air."""

    def __init__(self, test, chance, book, weights):
        self.test = test
        self.chance = chance
        self.book = book
        self.weights = weights
        self.houses = [House(book, weights, own) for own in range(len(weights))]
        self.plain = [PlainHouse(book, weights, own) for own in range(len(weights))]
        self.letters = []
        self.made = []
        self.tried = {"told": 0, "ShortShare": 0, "folded": 0, "waits": 0}

    def both(self, own, name, *arguments):
        """What the house and the plain one tell, which must be the same."""
        told = outcome(getattr(self.houses[own], name), *arguments)
        self.test.assertEqual(told, outcome(getattr(self.plain[own], name), *arguments))
        self.tried[told[0]] = self.tried.get(told[0], 0) + 1
        return told

    def do(self, own):
        deed = self.chance.choice(self.book[2])
        told = self.both(own, "do", deed[0], self.chance.randint(deed[1] - 1, deed[2] + 1))
        if told[0] == "told":
            self.made.append(told[1])

    def give(self, own):
        rule = self.chance.choice(self.book[1])
        to = self.chance.randint(-1, len(self.weights))
        told = self.both(own, "give", rule[0], to, self.chance.randint(0, 5))
        if told[0] == "told":
            self.made.append(told[1])

    def send(self, own):
        to = self.chance.randrange(len(self.weights))
        counts = self.chance.choice([self.houses[own].surely(to), (0,) * len(self.weights), self.houses[to].counts()])
        told = self.both(own, "letter", counts)
        if told[0] == "told":
            self.letters.append(told[1])

    def come(self, own):
        if self.letters:
            rows = list(self.chance.choice(self.letters))
            if self.chance.random() < 0.4:
                self.chance.shuffle(rows)
                rows = rows[:self.chance.randint(0, len(rows))]
            for row in rows:
                told = self.both(own, "hear", row)
                self.tried["waits"] += told == ("told", "waits")

    def lose(self, own):
        if self.letters:
            self.letters.pop(self.chance.randrange(len(self.letters)))

    def fold(self, own):
        self.tried["folded"] += self.both(own, "fold")[1]

    def fall(self, own):
        paper = paper_of(self.houses[own])
        self.test.assertEqual(paper, self.plain[own].paper())
        self.houses[own] = risen(self.book, self.weights, paper)
        self.plain[own].fall()
        self.test.assertEqual(paper_of(self.houses[own]), paper)

    def step(self):
        own = self.chance.randrange(len(self.weights))
        deeds = (self.do, self.do, self.do, self.give, self.send, self.send, self.come, self.come, self.come)
        self.chance.choice(deeds + (self.lose, self.fold, self.fall))(own)
        self.look(own)

    def look(self, own):
        house = self.houses[own]
        self.test.assertEqual(told_by(house), told_by(self.plain[own]))
        for rule in range(len(self.book[1])):
            left = spare_at(self.book, rule, house.state())
            self.test.assertGreaterEqual(left, 0)
            shares = house.shares(rule)
            if shares is not None:
                self.test.assertGreaterEqual(min(shares), 0)
                self.test.assertEqual(sum(shares), left)

    def look_at_plain_book(self):
        """Point 22, for the rows of each copy in any order that keeps causes."""
        for own, house in enumerate(self.houses):
            rows = self.plain[own].log.taken
            self.test.assertTrue(keeps_causes(len(self.weights), rows))
            for order in (rows, reordered(self.chance, len(self.weights), rows)):
                self.test.assertTrue(keeps_causes(len(self.weights), order))
                plain = Plain(self.book)
                for row in order:
                    if row[3][0] == "do":
                        self.test.assertIsNone(plain.do(row[3][1], row[3][2]))
                self.test.assertEqual(plain.state(), house.state())
                self.test.assertEqual(state_by(self.book, order), house.state())

    def hand_all_to(self, own):
        """All rows and all shares to one house; what was handed to another one must have come there first."""
        for house in range(len(self.weights)):
            for row in self.made:
                self.both(house, "hear", row)
            for rule in range(len(self.book[1])):
                shares = self.houses[house].shares(rule)
                if house != own and shares is not None and shares[house] > 0:
                    row = self.both(house, "give", self.book[1][rule][0], own, shares[house])[1]
                    self.made.append(row)
        for row in self.chance.sample(self.made, len(self.made)):
            self.both(own, "hear", row)
        self.test.assertEqual(sum(self.houses[own].counts()), len(self.made))


def reordered(chance, houses, rows):
    """The same rows in another order that keeps causes."""
    left = list(rows)
    counts = [0] * houses
    order = []
    while left:
        ready = [row for row in left if row[1] == counts[row[0]] and all(a <= b for a, b in zip(row[2], counts))]
        order.append(chance.choice(ready))
        left.remove(order[-1])
        counts[order[-1][0]] += 1
    return order


def any_street(test, chance):
    weights = [chance.randint(0, 3) for house in range(chance.randint(2, 4))]
    weights[chance.randrange(len(weights))] += 1
    return Street(test, chance, any_book(chance), weights)


class Whole(unittest.TestCase):
    def test_behind_each_step_every_copy_keeps_every_rule(self):
        chance = random.Random(71)
        tried = {}
        needless = 0
        for round in range(120):
            street = any_street(self, chance)
            for turn in range(100):
                street.step()
            for own in range(len(street.weights)):
                street.look(own)
            street.look_at_plain_book()
            needless += len(street.book[1]) - len(street.plain[0].counted)
            for key in street.tried:
                tried[key] = tried.get(key, 0) + street.tried[key]
        self.assertGreater(needless, 20)
        for key in ("told", "ShortShare", "NoRule", "OutOfRange", "Folded", "folded", "waits"):
            self.assertGreater(tried[key], 20, tried)

    def test_rows_handed_to_all_in_any_order_come_to_the_same(self):
        chance = random.Random(72)
        for round in range(30):
            street = any_street(self, chance)
            for turn in range(50):
                street.step()
            told = []
            for own, house in enumerate(street.houses):
                for row in chance.sample(street.made, len(street.made)):
                    house.hear(row)
                    self.assertEqual(house.state(), street_state(street, house))
                told.append((house.state(), house.counts(), [house.shares(rule) for rule in range(5)], house.waiting()))
            self.assertEqual(told, told[:1] * len(told))
            self.assertEqual(told[0][3], [])
            self.assertEqual(told[0][0], state_by(street.book, street.made))

    def test_one_house_with_all_shares_does_just_what_breaks_no_rule(self):
        chance = random.Random(73)
        done = 0
        refused = 0
        for round in range(60):
            street = any_street(self, chance)
            for turn in range(25):
                street.step()
            own = chance.randrange(len(street.weights))
            street.hand_all_to(own)
            for turn in range(30):
                deed = chance.randrange(len(street.book[2]))
                n = chance.randint(*street.book[2][deed][1:3])
                before = street.houses[own].state()
                after = [x + a * n + b for x, (a, b) in zip(before, street.book[2][deed][3])]
                keeps = all(spare_at(street.book, rule, after) >= 0 for rule in range(len(street.book[1])))
                told = street.both(own, "do", street.book[2][deed][0], n)
                self.assertEqual(told[0], "told" if keeps else "ShortShare")
                self.assertEqual(street.houses[own].state(), tuple(after) if keeps else before)
                done += keeps
                refused += not keeps
        self.assertGreater(min(done, refused), 100)


def street_state(street, house):
    """The state by those of all rows that the house's counts tell."""
    return state_by(street.book, [row for row in street.made if row[1] < house.counts()[row[0]]])


if __name__ == "__main__":
    unittest.main()
