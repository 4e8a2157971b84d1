"""Points 2, 3 and 17 to 20, and the interface of apartbook.houses."""

import copy
import itertools
import unittest

from apartbook.books import read_book
from apartbook.errors import Folded
from apartbook.houses import House

from helper import FARM, PlainHouse, outcome, talk, told_by

BOOK = read_book(FARM)
BOTH, FULL, RICH = range(3)


def street(houses):
    return [House(BOOK, [1] * houses, own) for own in range(houses)]


def shares(house):
    return [house.shares(rule) for rule in range(3)]


class Beginning(unittest.TestCase):
    def test_a_house_at_its_beginning(self):
        for houses in (2, 3, 4):
            for own in range(houses):
                house = House(BOOK, [1] * houses, own)
                self.assertEqual(house.state(), (10, 4))
                self.assertEqual((house.rows(), house.waiting()), ([], []))
                self.assertEqual((house.counts(), house.base()), ((0,) * houses, (0,) * houses))
                self.assertEqual([house.surely(one) for one in range(houses)], [(0,) * houses] * houses)
                self.assertEqual(house.letter((0,) * houses), [])
                self.assertEqual(house.fold(), 0)

    def test_shares_are_dealt_by_weights(self):
        for own in range(3):
            self.assertEqual(shares(House(BOOK, [1, 1, 1], own)), [None, [4, 3, 3], [2, 1, 1]])
            self.assertEqual(shares(House(BOOK, [0, 5, 0], own)), [None, [0, 10, 0], [0, 4, 0]])
            self.assertEqual(shares(House(BOOK, [3, 0, 1], own)), [None, [8, 0, 2], [3, 0, 1]])

    def test_shares_are_of_what_the_rule_has_to_spare(self):
        book = read_book("item a 7\nrule much: 3*a >= 10\nrule few: 9 >= a\ndeed d n 0 1: a n")
        house = House(book, [1, 1], 0)
        self.assertEqual([house.shares(0), house.shares(1)], [[6, 5], [1, 1]])

    def test_no_rule_is_counted(self):
        book = read_book("item a 7\nrule ever: 3 >= 0\ndeed less n 0 100: a -n")
        house = House(book, [1, 1], 0)
        self.assertIsNone(house.shares(0))
        house.do("less", 100)
        self.assertEqual(house.state(), (-93,))
        self.assertEqual(outcome(house.give, "ever", 1, 1), ("NoRule", "ever"))

    def test_nothing_to_spare(self):
        book = read_book("item a 0\nrule good: a >= 0\ndeed less n 0 9: a -n\ndeed more n 0 9: a n")
        house = House(book, [1, 1], 1)
        self.assertEqual(house.shares(0), [0, 0])
        self.assertEqual(outcome(house.do, "less", 1), ("ShortShare", "good", 1))
        self.assertEqual(house.do("less", 0), (1, 0, (0, 0), ("do", 0, 0)))
        house.do("more", 2)
        self.assertEqual(house.do("less", 2), (1, 2, (0, 2), ("do", 0, 2)))
        self.assertEqual((house.state(), house.shares(0)), ((0,), [0, 0]))

    def test_kinds(self):
        house = House(BOOK, [1, 1], 0)
        row = house.do("feed", 0)
        told = (house.state(), house.shares(FULL), row, row[2], row[3], house.counts(), house.waiting(), house.rows())
        self.assertEqual([type(one) for one in told], [tuple, list, tuple, tuple, tuple, tuple, list, list])
        told = (house.letter((0, 0)), house.surely(0), house.surely(1), house.fold(), house.base())
        self.assertEqual([type(one) for one in told], [list, tuple, tuple, int, tuple])

    def test_called_by_the_names_of_the_arguments(self):
        house = House(book=BOOK, weights=[1, 1], own=1)
        self.assertEqual(house.shares(rule=FULL), [5, 5])
        self.assertEqual(house.do(name="feed", n=1), (1, 0, (0, 0), ("do", 2, 1)))
        self.assertEqual(house.give(name="rich", to=0, amount=1), (1, 1, (0, 1), ("give", RICH, 0, 1)))
        self.assertEqual(house.hear(row=(0, 0, (0, 0), ("do", 2, 0))), "taken")
        self.assertEqual(len(house.letter(counts=(0, 0))), 3)
        self.assertEqual(house.surely(house=0), (1, 0))


class Deeds(unittest.TestCase):
    def test_a_deed_is_done(self):
        house = House(BOOK, [1, 1], 1)
        self.assertEqual(house.do("sell", 3), (1, 0, (0, 0), ("do", 0, 3)))
        self.assertEqual(house.state(), (7, 13))
        self.assertEqual(shares(house), [None, [5, 2], [2, 11]])
        self.assertEqual(house.do("buy", 4), (1, 1, (0, 1), ("do", 1, 4)))
        self.assertEqual(house.state(), (11, 5))
        self.assertEqual(shares(house), [None, [5, 6], [2, 3]])
        self.assertEqual(house.counts(), (0, 2))
        self.assertEqual([row[1] for row in house.rows()], [0, 1])

    def test_a_deed_that_changes_nothing(self):
        house = House(BOOK, [0, 1], 0)
        for n in (-2, 2):
            house.do("rest", n)
        self.assertEqual((house.state(), house.counts()), ((10, 4), (2, 0)))
        for n in (-3, 3):
            self.assertEqual(outcome(house.do, "rest", n), ("OutOfRange",))

    def test_a_deed_that_just_spends_the_share(self):
        house = House(BOOK, [1, 1], 0)
        house.do("feed", 4)
        self.assertEqual((house.state(), shares(house)), ((5, 4), [None, [0, 5], [2, 2]]))
        self.assertEqual(outcome(house.do, "feed", 0), ("ShortShare", "full", 1))

    def test_a_deed_that_is_short_by_one(self):
        house = House(BOOK, [1, 1], 0)
        self.assertEqual(outcome(house.do, "feed", 5), ("ShortShare", "full", 1))
        self.assertEqual(outcome(house.do, "feed", 9), ("ShortShare", "full", 5))

    def test_the_first_counted_rule_that_is_short(self):
        house = House(BOOK, [1, 1], 0)
        self.assertEqual(outcome(house.do, "waste", 2)[0], "told")
        self.assertEqual(shares(house), [None, [3, 5], [0, 2]])
        self.assertEqual(outcome(house.do, "waste", 3), ("ShortShare", "rich", 3))
        self.assertEqual(outcome(house.do, "waste", 4), ("ShortShare", "full", 1))
        self.assertEqual(outcome(house.do, "waste", 9), ("ShortShare", "full", 6))

    def test_a_rule_that_is_not_counted_is_not_asked(self):
        book = read_book("item a 1\nitem b 1\nrule both: a + b >= 0\nrule x: a >= 0\nrule y: b >= 0\ndeed d n 0 9: a -n, b -n")
        house = House(book, [0, 1], 0)
        self.assertEqual(outcome(house.do, "d", 1), ("ShortShare", "x", 1))

    def test_refusals_in_their_order(self):
        house = House(BOOK, [1, 1], 0)
        self.assertEqual(outcome(house.do, "steal", 99), ("NoDeed", "steal"))
        self.assertEqual(outcome(house.do, "full", 1), ("NoDeed", "full"))
        self.assertEqual(outcome(house.do, "", 1), ("NoDeed", ""))
        self.assertEqual(outcome(house.do, "feed", 10), ("OutOfRange",))
        self.assertEqual(outcome(house.do, "feed", -1), ("OutOfRange",))
        self.assertEqual(outcome(house.do, "sell", 0), ("OutOfRange",))
        self.assertEqual(outcome(house.do, "feed", 9), ("ShortShare", "full", 5))

    def test_numbers_of_thirty_figures(self):
        most = 10 ** 30 - 1
        book = ([("a", most)], [("good", (1,), 0)], [("spend", -most, most, ((-most, 0),)), ("less", 0, most, ((-1, 0),))])
        house = House(book, [1, 0], 0)
        self.assertEqual(outcome(house.do, "spend", most), ("ShortShare", "good", most * most - most))
        house.do("spend", 1)
        self.assertEqual((house.state(), house.shares(0)), ((0,), [0, 0]))
        house.do("spend", -most)
        self.assertEqual((house.state(), house.shares(0)), ((most * most,), [most * most, 0]))
        self.assertEqual(house.give("good", 1, most * most), (0, 2, (2, 0), ("give", 0, 1, most * most)))
        self.assertEqual(house.shares(0), [0, most * most])


class HandedOn(unittest.TestCase):
    def test_an_amount_is_handed_on(self):
        house = House(BOOK, [1, 1, 1], 1)
        self.assertEqual(house.give("full", 2, 2), (1, 0, (0, 0, 0), ("give", FULL, 2, 2)))
        self.assertEqual(shares(house), [None, [4, 1, 5], [2, 1, 1]])
        self.assertEqual(house.give("rich", 0, 1), (1, 1, (0, 1, 0), ("give", RICH, 0, 1)))
        self.assertEqual(shares(house), [None, [4, 1, 5], [3, 0, 1]])
        self.assertEqual(house.state(), (10, 4))

    def test_all_of_the_share(self):
        house = House(BOOK, [1, 1], 0)
        self.assertEqual(outcome(house.give, "full", 1, 6), ("ShortShare", "full", 1))
        house.give("full", 1, 5)
        self.assertEqual(house.shares(FULL), [0, 10])
        self.assertEqual(outcome(house.give, "full", 1, 1), ("ShortShare", "full", 1))
        self.assertEqual(outcome(house.do, "feed", 0), ("ShortShare", "full", 1))

    def test_refusals_in_their_order(self):
        house = House(BOOK, [1, 1, 1], 1)
        for name in ("steal", "both", "feed", ""):
            self.assertEqual(outcome(house.give, name, 1, 0), ("NoRule", name))
        for to in (1, 3, -1, 10 ** 30, -2, -3):
            self.assertEqual(outcome(house.give, "full", to, 1), ("OutOfRange",))
            self.assertEqual(outcome(house.give, "full", to, 99), ("OutOfRange",))
        for amount in (0, -1, -99):
            self.assertEqual(outcome(house.give, "full", 0, amount), ("OutOfRange",))
        self.assertEqual(outcome(house.give, "full", 0, 99), ("ShortShare", "full", 96))

    def test_what_was_handed_on_is_spent_by_the_other(self):
        first, second = street(2)
        row = first.give("full", 1, 5)
        self.assertEqual(outcome(second.do, "feed", 9), ("ShortShare", "full", 5))
        second.hear(row)
        self.assertEqual(second.shares(FULL), [0, 10])
        self.assertEqual(second.do("feed", 9), (1, 0, (1, 0), ("do", 2, 9)))
        self.assertEqual((second.state(), second.shares(FULL)), ((0, 4), [0, 0]))

    def test_a_gain_is_spent_by_the_doer_alone(self):
        first, second = street(2)
        row = first.do("sell", 5)
        second.hear(row)
        self.assertEqual(second.shares(RICH), [17, 2])
        self.assertEqual(outcome(second.do, "buy", 2), ("ShortShare", "rich", 2))
        second.hear(first.give("rich", 1, 2))
        self.assertEqual(second.do("buy", 2), (1, 0, (2, 0), ("do", 1, 2)))

    def test_one_house_with_all_rows_and_all_shares(self):
        houses = street(3)
        rows = [houses[1].do("sell", 3), houses[2].do("feed", 1)]
        for own in (1, 2):
            for name, place in (("full", FULL), ("rich", RICH)):
                amount = houses[own].shares(place)[own]
                if amount > 0:
                    rows.append(houses[own].give(name, 0, amount))
        for row in reversed(rows):
            houses[0].hear(row)
        self.assertEqual(houses[0].state(), (5, 13))
        self.assertEqual(shares(houses[0]), [None, [5, 0, 0], [13, 0, 0]])
        self.assertEqual(outcome(houses[0].do, "waste", 6), ("ShortShare", "full", 1))
        houses[0].do("waste", 5)
        self.assertEqual(houses[0].state(), (0, 8))


class Refused(unittest.TestCase):
    def test_a_refused_deed_leaves_all_as_it_was(self):
        house, other = street(2)
        house.do("sell", 2)
        other.do("feed", 1)
        house.hear(other.do("feed", 0))
        before = copy.deepcopy(told_by(house))
        tries = [(house.do, "steal", 1), (house.do, "feed", 10), (house.do, "feed", 9), (house.do, "waste", 9)]
        tries += [(house.give, "both", 1, 1), (house.give, "full", 0, 1), (house.give, "full", 1, 0)]
        tries += [(house.give, "full", 1, 4)]
        names = ["NoDeed", "OutOfRange", "ShortShare", "ShortShare", "NoRule", "OutOfRange", "OutOfRange", "ShortShare"]
        self.assertEqual([outcome(*one)[0] for one in tries], names)
        self.assertEqual(told_by(house), before)
        self.assertEqual(house.do("rest", 0)[:3], (0, 1, (1, 0)))


class Heard(unittest.TestCase):
    def test_answers(self):
        first, second = street(2)
        rows = [first.do("sell", 1), first.do("feed", 1)]
        self.assertEqual(second.hear(rows[1]), "waits")
        self.assertEqual(second.waiting(), [(0, 1)])
        self.assertEqual((second.state(), second.counts(), second.rows()), ((10, 4), (0, 0), []))
        self.assertEqual(second.hear(rows[1]), "waits")
        self.assertEqual(second.hear(rows[0]), "taken")
        self.assertEqual((second.state(), second.counts(), second.rows()), ((7, 7), (2, 0), rows))
        self.assertEqual(second.waiting(), [])
        for row in rows:
            self.assertEqual(second.hear(row), "known")
            self.assertEqual(first.hear(row), "known")
        self.assertEqual((second.state(), shares(second)), ((7, 7), [None, [2, 5], [5, 2]]))

    def test_a_row_behind_what_was_heard_has_it_as_causes(self):
        houses = street(3)
        first = houses[0].do("feed", 0)
        second = houses[1].do("feed", 0)
        houses[2].hear(first)
        houses[2].hear(second)
        third = houses[2].give("full", 0, 1)
        self.assertEqual(third, (2, 0, (1, 1, 0), ("give", FULL, 0, 1)))
        self.assertEqual(houses[0].hear(third), "waits")
        self.assertEqual(houses[0].do("rest", 0), (0, 1, (1, 0, 0), ("do", 4, 0)))
        self.assertEqual(houses[0].hear(second), "taken")
        self.assertEqual(houses[0].shares(FULL), [4, 2, 2])
        self.assertEqual(houses[0].rows(), [first, (0, 1, (1, 0, 0), ("do", 4, 0)), second, third])

    def test_what_waits_is_not_in_the_state_or_the_shares(self):
        first, second = street(2)
        first.do("rest", 0)
        second.hear(first.give("full", 1, 5))
        self.assertEqual(shares(second), [None, [5, 5], [2, 2]])
        self.assertEqual(outcome(second.do, "feed", 5), ("ShortShare", "full", 1))

    def test_rows_in_every_order(self):
        houses = street(3)
        rows = [houses[0].do("sell", 4), houses[1].do("feed", 2), houses[0].give("rich", 1, 6)]
        houses[1].hear(rows[0])
        houses[1].hear(rows[2])
        rows += [houses[1].do("buy", 3), houses[2].do("waste", 1)]
        told = []
        for order in itertools.permutations(rows):
            house = House(BOOK, [1, 1, 1], 2)
            for row in order + order[:2]:
                house.hear(row)
                self.assertGreaterEqual(min(house.state()), 0)
                for rule, left in ((FULL, house.state()[0]), (RICH, house.state()[1])):
                    self.assertGreaterEqual(min(house.shares(rule)), 0)
                    self.assertEqual(sum(house.shares(rule)), left)
            told.append((house.state(), shares(house), house.counts(), house.waiting()))
        self.assertEqual(told[0], ((5, 9), [None, [0, 3, 2], [8, 1, 0]], (2, 2, 1), []))
        self.assertEqual(told, told[:1] * len(told))

    def test_as_many_rows_as_the_bounds_let(self):
        houses = street(4)
        for turn in range(200):
            for house in houses:
                house.do("rest", turn % 3)
        rows = [row for house in houses for row in house.rows()]
        for row in rows[::-1]:
            houses[0].hear(row)
        self.assertEqual((houses[0].counts(), houses[0].waiting()), ((200,) * 4, []))
        self.assertEqual(sorted(houses[0].rows()), sorted(rows))


class Letters(unittest.TestCase):
    def setUp(self):
        self.houses = street(3)
        self.rows = [self.houses[0].do("feed", 0), self.houses[1].do("feed", 1), self.houses[0].do("rest", 1)]
        for row in (self.rows[1], self.rows[0], self.rows[2]):
            self.houses[2].hear(row)
        self.rows.append(self.houses[2].do("sell", 1))
        self.order = [self.rows[1], self.rows[0], self.rows[2], self.rows[3]]

    def test_counts_of_noughts(self):
        self.assertEqual(self.houses[2].letter((0, 0, 0)), self.order)

    def test_counts_of_another_house(self):
        self.assertEqual(self.houses[2].letter(self.houses[0].counts()), [self.rows[1], self.rows[3]])
        self.assertEqual(self.houses[2].letter(self.houses[1].counts()), [self.rows[0], self.rows[2], self.rows[3]])
        self.assertEqual(self.houses[2].letter((1, 0, 1)), [self.rows[1], self.rows[2]])

    def test_own_counts_and_greater_ones(self):
        self.assertEqual(self.houses[2].letter(self.houses[2].counts()), [])
        self.assertEqual(self.houses[2].letter((9, 9, 9)), [])
        self.assertEqual(self.houses[2].letter((9, 0, 9)), [self.rows[1]])

    def test_what_waits_is_in_no_letter(self):
        self.houses[0].hear(self.rows[3])
        self.assertEqual(self.houses[0].waiting(), [(2, 0)])
        self.assertEqual(self.houses[0].letter((0, 0, 0)), [self.rows[0], self.rows[2]])

    def test_heard_in_part_from_behind_and_again(self):
        letter = self.houses[2].letter((0, 0, 0))
        house = self.houses[1]
        self.assertEqual([house.hear(row) for row in letter[-1:]], ["waits"])
        self.assertEqual([house.hear(row) for row in letter[::-1]], ["waits", "waits", "taken", "known"])
        self.assertEqual(house.rows(), [self.rows[1], self.rows[0], self.rows[2], self.rows[3]])
        self.assertEqual([house.hear(row) for row in letter], ["known"] * 4)
        self.assertEqual((house.state(), house.counts()), (self.houses[2].state(), (2, 1, 1)))

    def test_letters_of_letters(self):
        for row in self.houses[2].letter(self.houses[1].counts()):
            self.houses[1].hear(row)
        for row in self.houses[1].letter(self.houses[0].counts()):
            self.houses[0].hear(row)
        self.assertEqual(self.houses[0].counts(), (2, 1, 1))
        self.assertEqual(shares(self.houses[0]), shares(self.houses[2]))


class Surely(unittest.TestCase):
    def test_of_the_own_house(self):
        first, second = street(2)
        self.assertEqual(first.surely(0), (0, 0))
        first.do("rest", 0)
        self.assertEqual(first.surely(0), (1, 0))
        first.hear(second.do("rest", 0))
        self.assertEqual(first.surely(0), (1, 1))

    def test_of_another_house(self):
        first, second = street(2)
        rows = [first.do("rest", 0), first.do("rest", 1)]
        self.assertEqual(first.surely(1), (0, 0))
        first.hear(second.do("rest", 0))
        self.assertEqual(first.surely(1), (0, 1))
        second.hear(rows[0])
        first.hear(second.do("rest", 1))
        self.assertEqual(first.surely(1), (1, 2))
        second.hear(rows[1])
        self.assertEqual(first.surely(1), (1, 2))
        self.assertEqual(second.surely(0), (2, 0))

    def test_a_row_that_waits_tells_nothing(self):
        first, second = street(2)
        second.do("rest", 0)
        first.hear(second.do("rest", 1))
        self.assertEqual(first.surely(1), (0, 0))

    def test_by_the_last_row_not_by_what_others_tell(self):
        houses = street(3)
        row = houses[0].do("rest", 0)
        houses[1].hear(row)
        later = houses[1].do("rest", 0)
        houses[2].hear(row)
        houses[2].hear(later)
        self.assertEqual([houses[2].surely(one) for one in range(3)], [(1, 0, 0), (1, 1, 0), (1, 1, 0)])


class Folds(unittest.TestCase):
    def two(self):
        """Two houses that did, handed on and heard; what both know of is four rows."""
        houses = street(2)
        talk(houses, [houses[0].do("sell", 2), houses[1].do("feed", 1), houses[0].give("rich", 1, 3)])
        talk(houses, [houses[0].do("rest", 0)])
        talk(houses, [houses[1].do("buy", 1)])
        return houses

    def test_of_nothing(self):
        house = House(BOOK, [1, 1], 0)
        self.assertEqual((house.fold(), house.base()), (0, (0, 0)))
        house.do("feed", 1)
        house.do("feed", 1)
        self.assertEqual((house.fold(), house.base(), len(house.rows())), (0, (0, 0), 2))

    def test_of_some(self):
        houses = self.two()
        self.assertEqual([houses[0].surely(1), houses[1].surely(0)], [(3, 2), (3, 1)])
        self.assertEqual(houses[0].fold(), 5)
        self.assertEqual((houses[0].base(), houses[0].counts(), houses[0].rows()), ((3, 2), (3, 2), []))
        self.assertEqual(houses[1].fold(), 4)
        self.assertEqual((houses[1].base(), houses[1].counts()), ((3, 1), (3, 2)))
        self.assertEqual(houses[1].rows(), [(1, 1, (3, 1), ("do", 1, 1))])
        self.assertEqual([house.fold() for house in houses], [0, 0])

    def test_a_house_of_which_nothing_was_heard(self):
        houses = street(3)
        talk(houses[:2], [houses[0].do("rest", 0)])
        talk(houses[:2], [houses[1].do("rest", 0)])
        self.assertEqual((houses[0].fold(), houses[0].base()), (0, (0, 0, 0)))

    def test_all_stays_as_it_was(self):
        house, same = self.two()[1], self.two()[1]
        self.assertEqual(house.fold(), 4)
        self.assertEqual((house.state(), shares(house)), ((7, 8), [None, [3, 4], [5, 3]]))
        self.assertEqual((house.state(), shares(house), house.counts()), (same.state(), shares(same), same.counts()))
        self.assertEqual([house.surely(0), house.surely(1)], [same.surely(0), same.surely(1)])
        tries = [("do", "feed", 4), ("give", "rich", 0, 4), ("do", "feed", 3), ("give", "rich", 0, 3), ("do", "sell", 1)]
        for name, *arguments in tries:
            self.assertEqual(outcome(getattr(house, name), *arguments), outcome(getattr(same, name), *arguments))
        self.assertEqual((house.state(), shares(house), house.counts()), (same.state(), shares(same), same.counts()))
        self.assertEqual(house.rows(), same.rows()[4:])

    def test_rows_that_are_folded_are_known(self):
        rows = self.two()[0].rows()
        house = self.two()[0]
        house.fold()
        for row in rows:
            self.assertEqual(house.hear(row), "known")
        self.assertEqual((house.rows(), house.counts(), house.state()), ([], (3, 2), (7, 8)))

    def test_what_waits_waits_on(self):
        houses = self.two()
        rows = [houses[0].do("rest", 1), houses[0].do("rest", 2)]
        self.assertEqual(houses[1].hear(rows[1]), "waits")
        houses[1].fold()
        self.assertEqual(houses[1].waiting(), [(0, 4)])
        self.assertEqual(houses[1].hear(rows[0]), "taken")
        self.assertEqual((houses[1].waiting(), houses[1].rows()[-2:]), ([], rows))

    def test_letters_behind_a_fold(self):
        house = self.two()[1]
        row = house.rows()[-1]
        house.fold()
        self.assertEqual(house.base(), (3, 1))
        self.assertEqual(house.letter((3, 1)), [row])
        self.assertEqual(house.letter((3, 2)), [])
        self.assertEqual(house.letter((9, 9)), [])
        for counts in ((2, 1), (3, 0), (0, 0), (2, 9), (9, 0), (0, 2)):
            self.assertRaises(Folded, house.letter, counts)

    def test_no_fold_no_refusal(self):
        house = self.two()[1]
        self.assertEqual(len(house.letter((0, 0))), 5)

    def test_folds_again_and_again(self):
        houses = street(2)
        plain = [PlainHouse(BOOK, [1, 1], own) for own in range(2)]
        folded = 0
        for turn in range(20):
            own = turn % 2
            row = houses[own].do("rest", 0)
            self.assertEqual(plain[own].do("rest", 0), row)
            talk(houses + plain, [row])
            told = [house.fold() for house in houses]
            self.assertEqual([house.fold() for house in plain], told)
            self.assertEqual([told_by(house) for house in houses], [told_by(house) for house in plain])
            folded += sum(told)
        self.assertEqual(folded, 39)
        self.assertEqual(houses[1].base(), (10, 9))


class Apart(unittest.TestCase):
    def test_what_is_handed_in_is_not_changed(self):
        book = read_book(FARM)
        weights = [2, 1]
        before = copy.deepcopy((book, weights))
        house = House(book, weights, 0)
        house.do("sell", 2)
        house.give("full", 1, 1)
        house.fold()
        self.assertEqual((book, weights), before)

    def test_what_is_done_later_to_what_was_handed_in(self):
        book = read_book(FARM)
        weights = [1, 1]
        house = House(book, weights, 0)
        weights[0] = 0
        weights.append(7)
        for part in book:
            part.clear()
        book[2].append(("feed", 0, 99, ((0, 0), (0, 0))))
        book[1].append(("free", (0, 0), 0))
        self.assertEqual((shares(house), house.counts()), ([None, [5, 5], [2, 2]], (0, 0)))
        self.assertEqual(outcome(house.do, "feed", 10), ("OutOfRange",))
        self.assertEqual(house.do("feed", 2), (0, 0, (0, 0), ("do", 2, 2)))
        self.assertEqual(outcome(house.give, "free", 1, 1), ("NoRule", "free"))
        self.assertEqual(outcome(house.give, "full", 2, 1), ("OutOfRange",))
        self.assertEqual(house.state(), (7, 4))

    def test_what_is_told_is_the_askers_own(self):
        first, second = street(2)
        first.do("feed", 1)
        second.do("rest", 0)
        first.hear(second.do("rest", 1))
        told = told_by(first)
        before = copy.deepcopy(told)
        for one in (first.shares(FULL), first.rows(), first.waiting(), first.letter((0, 0))):
            one.clear()
            one.append(7)
        self.assertEqual(told_by(first), before)
        first.do("feed", 1)
        first.hear(second.rows()[0])
        self.assertEqual(told, before)

    def test_two_houses_of_one_book_are_apart(self):
        first, second = street(2)
        first.do("feed", 1)
        self.assertEqual((second.state(), shares(second), second.rows()), ((10, 4), [None, [5, 5], [2, 2]], []))


if __name__ == "__main__":
    unittest.main()
