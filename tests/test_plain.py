"""Points 2 and 22, and the interface of apartbook.plain."""

import copy
import itertools
import unittest

from apartbook.books import read_book
from apartbook.houses import House
from apartbook.plain import Plain, keeps_causes, state_by

from helper import FARM, outcome

TEXT = FARM.replace(" 0 9:", " 0 30:")
BOOK = read_book(TEXT)
SELL, BUY, FEED, WASTE = range(4)


def row(house, number, *causes):
    return (house, number, causes, ("do", FEED, number))


class PlainBook(unittest.TestCase):
    def test_deeds_are_done(self):
        plain = Plain(BOOK)
        self.assertEqual(plain.state(), (10, 4))
        self.assertIsNone(plain.do(SELL, 4))
        self.assertEqual(plain.state(), (6, 16))
        self.assertIsNone(plain.do(FEED, 5))
        self.assertEqual(plain.state(), (0, 16))

    def test_a_deed_that_would_break_a_rule(self):
        plain = Plain(BOOK)
        self.assertEqual(outcome(plain.do, FEED, 10), ("Broken", "full"))
        self.assertEqual(outcome(plain.do, WASTE, 5), ("Broken", "rich"))
        self.assertEqual(plain.state(), (10, 4))
        plain.do(FEED, 9)
        self.assertEqual(plain.state(), (0, 4))

    def test_the_first_rule_needless_or_not(self):
        plain = Plain(BOOK)
        self.assertEqual(outcome(plain.do, WASTE, 11), ("Broken", "both"))
        self.assertEqual(outcome(plain.do, FEED, 14), ("Broken", "both"))
        self.assertEqual(outcome(plain.do, FEED, 13), ("Broken", "full"))
        self.assertEqual(plain.state(), (10, 4))
        book = (BOOK[0], BOOK[1][::-1], BOOK[2])
        self.assertEqual(outcome(Plain(book).do, WASTE, 11), ("Broken", "rich"))

    def test_a_refused_deed_leaves_the_state(self):
        plain = Plain(BOOK)
        plain.do(SELL, 1)
        for n in (11, 12, 30):
            self.assertEqual(outcome(plain.do, FEED, n)[0], "Broken")
            self.assertEqual(plain.state(), (9, 7))
        plain.do(FEED, 8)
        self.assertEqual(plain.state(), (0, 7))

    def test_numbers_of_thirty_figures(self):
        most = 10 ** 30 - 1
        plain = Plain(([("a", most)], [("good", (1,), 0)], [("d", -most, most, ((most, -1),))]))
        self.assertEqual(outcome(plain.do, 0, -1), ("Broken", "good"))
        plain.do(0, most)
        self.assertEqual(plain.state(), (most * most + most - 1,))

    def test_it_is_apart_from_the_book_that_was_handed_in(self):
        book = read_book(TEXT)
        before = copy.deepcopy(book)
        plain = Plain(book)
        plain.do(SELL, 1)
        self.assertEqual(book, before)
        book[0].clear()
        book[1].clear()
        book[2].clear()
        self.assertEqual(outcome(plain.do, FEED, 9), ("Broken", "full"))
        plain.do(FEED, 8)
        self.assertEqual(plain.state(), (0, 7))

    def test_kinds_and_names_of_arguments(self):
        plain = Plain(book=BOOK)
        plain.do(deed=SELL, n=1)
        self.assertIs(type(plain.state()), tuple)
        self.assertIs(type(state_by(book=BOOK, rows=[])), tuple)
        self.assertIs(keeps_causes(houses=2, rows=[]), True)
        self.assertIs(keeps_causes(2, [row(0, 1, 1, 0)]), False)


class StateByRows(unittest.TestCase):
    ROWS = [
        (0, 0, (0, 0), ("do", SELL, 3)), (1, 0, (0, 0), ("do", FEED, 2)),
        (1, 1, (0, 1), ("give", 1, 0, 2)), (0, 1, (1, 0), ("do", SELL, 1)),
    ]

    def test_no_rows(self):
        self.assertEqual(state_by(BOOK, []), (10, 4))

    def test_in_any_order(self):
        for order in itertools.permutations(self.ROWS):
            self.assertEqual(state_by(BOOK, list(order)), (3, 16))

    def test_an_amount_handed_on_changes_nothing(self):
        self.assertEqual(state_by(BOOK, self.ROWS[2:3]), (10, 4))

    def test_rules_are_not_asked(self):
        self.assertEqual(state_by(BOOK, [(0, 0, (0, 0), ("do", FEED, 30))]), (-21, 4))

    def test_nothing_is_changed(self):
        before = copy.deepcopy((BOOK, self.ROWS))
        state_by(BOOK, self.ROWS)
        keeps_causes(2, self.ROWS)
        self.assertEqual((BOOK, self.ROWS), before)


class Causes(unittest.TestCase):
    ROWS = [row(0, 0, 0, 0), row(1, 0, 1, 0), row(0, 1, 1, 1), row(1, 1, 1, 1)]

    def test_in_order(self):
        for size in range(5):
            self.assertIs(keeps_causes(2, self.ROWS[:size]), True)

    def test_exchanged(self):
        kept = []
        for places in itertools.permutations(range(4)):
            if keeps_causes(2, [self.ROWS[place] for place in places]):
                kept.append(places)
        self.assertEqual(kept, [(0, 1, 2, 3), (0, 1, 3, 2)])

    def test_left_out(self):
        self.assertIs(keeps_causes(2, self.ROWS[1:]), False)
        self.assertIs(keeps_causes(2, self.ROWS[:1] + self.ROWS[2:]), False)
        self.assertIs(keeps_causes(2, self.ROWS[:2] + self.ROWS[3:]), True)

    def test_twice(self):
        self.assertIs(keeps_causes(2, self.ROWS + self.ROWS[:1]), False)
        self.assertIs(keeps_causes(2, self.ROWS[:1] * 2), False)
        self.assertIs(keeps_causes(2, self.ROWS[:2] + self.ROWS[1:]), False)

    def test_one_that_waits_is_not_taken_as_it_comes(self):
        self.assertIs(keeps_causes(2, [self.ROWS[1], self.ROWS[0]]), False)
        self.assertIs(keeps_causes(2, [self.ROWS[1], self.ROWS[0], self.ROWS[1]]), False)

    def test_the_plain_book_does_all_deeds_of_a_copy(self):
        first, second = House(BOOK, [1, 1], 0), House(BOOK, [1, 1], 1)
        rows = [first.do("feed", 4), first.give("rich", 1, 2), second.do("sell", 2)]
        second.hear(rows[0])
        second.hear(rows[1])
        rows.append(second.do("waste", 3))
        self.assertEqual(second.state(), (0, 7))
        tried = 0
        for order in itertools.permutations(rows):
            if keeps_causes(2, order):
                plain = Plain(BOOK)
                for one in order:
                    if one[3][0] == "do":
                        plain.do(one[3][1], one[3][2])
                self.assertEqual(plain.state(), second.state())
                self.assertEqual(state_by(BOOK, order), second.state())
                tried += 1
        self.assertEqual(tried, 3)


if __name__ == "__main__":
    unittest.main()
