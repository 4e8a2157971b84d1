"""Points 2, 3 and 13, and the interface of apartbook.rules."""

import copy
import itertools
import random
import unittest

from apartbook.books import check_book, read_book
from apartbook.rules import counted, needless
from helper import are_weights, is_point, value_by_fractions

BIG = 10 ** 30 - 1


def book_of(starts, rules):
    """A book with items a, b .. of those starts and rules of those (coefficients, rest)."""
    book = (
        [("abcdef"[place], start) for place, start in enumerate(starts)],
        [("rstuvwxyz"[place],) + tuple(rule) for place, rule in enumerate(rules)],
        [("do", 0, 1, ((1, 0),) * len(starts))],
    )
    check_book(book)
    return book


def any_book(chance, most):
    width = chance.randint(1, 4)
    starts = [chance.randint(-most, most) for item in range(width)]
    rules = []
    for rule in range(chance.randint(1, 5)):
        coefficients = tuple(chance.randint(-most, most) for item in range(width))
        to_spare = chance.choice((0, 0, 1, most))
        rules.append((coefficients, to_spare - sum(a * b for a, b in zip(coefficients, starts))))
    return book_of(starts, rules)


class Judged(unittest.TestCase):
    def judge(self, book, others, rule):
        """Looks whether what needless tells is so, and gives back which of both it told."""
        answer = needless(book, others, rule)
        self.assertIs(type(answer), tuple)
        rules = book[1]
        if answer[0] == "weights":
            self.judge_weights([rules[other] for other in others], rules[rule], answer)
        else:
            self.assertEqual((answer[0], len(answer)), ("point", 2))
            self.assertTrue(is_point(answer[1], len(book[0])), answer)
            for other in others:
                self.assertGreaterEqual(value_by_fractions(rules[other][1], rules[other][2], answer[1]), 0)
            self.assertLess(value_by_fractions(rules[rule][1], rules[rule][2], answer[1]), 0)
        return answer[0]

    def judge_weights(self, others, rule, answer):
        self.assertEqual(len(answer), 3)
        self.assertIs(type(answer[1]), int)
        self.assertGreaterEqual(answer[1], 1)
        self.assertTrue(are_weights(answer[2], len(others)), answer)
        for item in range(len(rule[1])):
            total = sum(weight * other[1][item] for weight, other in zip(answer[2], others))
            self.assertEqual(total, answer[1] * rule[1][item])
        total = sum(weight * other[2] for weight, other in zip(answer[2], others))
        self.assertLessEqual(total, answer[1] * rule[2])

    def needless(self, book, others, rule):
        self.assertEqual(self.judge(book, others, rule), "weights")

    def needed(self, book, others, rule):
        self.assertEqual(self.judge(book, others, rule), "point")


class Needless(Judged):
    def test_the_sum_of_two_others(self):
        book = book_of((1, 1), [((1, 0), 0), ((0, 1), 0), ((1, 1), 0)])
        self.needless(book, [0, 1], 2)
        self.assertEqual(needless(book, [0, 1], 2), ("weights", 1, [1, 1]))
        self.needed(book, [0], 2)
        self.needed(book, [1], 2)
        self.needed(book, [], 2)
        self.needed(book, [1, 2], 0)
        self.needed(book, [0, 2], 1)

    def test_the_others_in_any_order(self):
        book = book_of((3, 2), [((1, 0), 0), ((0, 1), -1), ((0, -1), 9), ((2, 3), -3)])
        for order in itertools.permutations([0, 1, 2]):
            self.needless(book, list(order), 3)
        self.assertEqual(needless(book, [0, 1], 3), ("weights", 1, [2, 3]))
        self.assertEqual(needless(book, [1, 0], 3), ("weights", 1, [3, 2]))

    def test_another_one_times_a_number(self):
        book = book_of((1, 1), [((2, -1), 3), ((4, -2), 6), ((6, -3), 9), ((-2, 1), 3)])
        for rule, other in itertools.permutations([0, 1, 2], 2):
            self.needless(book, [other], rule)
        self.assertEqual(needless(book, [0], 1), ("weights", 1, [2]))
        for rule in range(3):
            self.needed(book, [3], rule)
            self.needed(book, [rule], 3)

    def test_a_whole_above_one(self):
        book = book_of((1, 1), [((2, 0), 0), ((0, 3), 0), ((1, 1), 0)])
        self.needless(book, [0, 1], 2)
        self.assertGreater(needless(book, [0, 1], 2)[1], 1)

    def test_one_with_more_to_spare(self):
        book = book_of((5,), [((1,), 0), ((1,), 1), ((2,), -1), ((1,), -1)])
        self.needless(book, [0], 1)
        self.needed(book, [1], 0)
        self.needed(book, [0], 2)
        self.needless(book, [2], 0)
        self.needless(book, [3], 2)

    def test_points_are_of_fractions_not_of_whole_numbers_alone(self):
        # Of whole numbers just the same keep 2*a >= 1 and a >= 1.
        book = book_of((1,), [((2,), -1), ((1,), -1)])
        self.needed(book, [0], 1)
        self.needless(book, [1], 0)

    def test_one_beside_none(self):
        book = book_of((0, 0), [((0, 0), 0), ((0, 0), 5), ((1, 0), 0), ((0, -1), BIG)])
        self.assertEqual(needless(book, [], 0), ("weights", 1, []))
        self.needless(book, [], 1)
        self.needed(book, [], 2)
        self.needed(book, [], 3)

    def test_others_without_coefficients(self):
        book = book_of((0, 0), [((0, 0), 0), ((0, 0), 5), ((1, 0), 0), ((1, 0), 1)])
        self.needless(book, [1, 2, 3], 0)
        self.needed(book, [0, 1], 2)
        self.needless(book, [0, 1, 2], 3)

    def test_two_like_rules(self):
        book = book_of((1,), [((1,), 0), ((1,), 0)])
        self.needless(book, [1], 0)
        self.needless(book, [0], 1)

    def test_others_that_meet_at_the_starts_alone(self):
        book = book_of((2, 3), [((1, 0), -2), ((0, 1), -3), ((-1, -1), 5), ((4, -7), 13), ((4, -7), 14)])
        self.needless(book, [0, 1, 2], 3)
        self.needless(book, [0, 1, 2], 4)
        self.needed(book, [0, 1], 4)

    def test_all_others_and_some_by_chance(self):
        chance = random.Random(41)
        told = {"point": 0, "weights": 0}
        for round in range(1500):
            book = any_book(chance, chance.choice((1, 2, 3)))
            places = list(range(len(book[1])))
            chance.shuffle(places)
            told[self.judge(book, places[1:], places[0])] += 1
            told[self.judge(book, places[1:3], places[0])] += 1
        self.assertGreater(min(told.values()), 300)

    def test_numbers_of_thirty_figures(self):
        chance = random.Random(42)
        for round in range(60):
            book = any_book(chance, BIG)
            places = list(range(len(book[1])))
            chance.shuffle(places)
            self.judge(book, places[1:], places[0])
        book = book_of((0,), [((BIG,), 1), ((BIG - 1,), 1), ((-1,), 0)])
        self.needless(book, [0], 1)
        self.needed(book, [1], 0)

    def test_more_others_never_make_it_needed(self):
        chance = random.Random(43)
        for round in range(200):
            book = any_book(chance, 2)
            places = list(range(1, len(book[1])))
            told = [self.judge(book, places[:size], 0) for size in range(len(places) + 1)]
            self.assertEqual(told, sorted(told))

    def test_a_book_that_was_read(self):
        book = read_book("item a 5\nitem b 2\nrule r: a >= b\nrule s: b >= 0\nrule t: a >= 0\ndeed d n 0 1: a n")
        self.assertEqual(needless(book, [1, 0], 2), ("weights", 1, [1, 1]))
        self.assertEqual(counted(book), [0, 1])

    def test_called_by_the_names_of_the_arguments(self):
        book = book_of((1,), [((1,), 0), ((1,), 0)])
        self.assertEqual(needless(book=book, others=[1], rule=0), ("weights", 1, [1]))
        self.assertEqual(counted(book=book), [1])

    def test_what_was_handed_in_stays(self):
        book = book_of((1, 1), [((1, 0), 0), ((0, 1), 0), ((1, 1), 0)])
        before = copy.deepcopy(book)
        others = [1, 0]
        needless(book, others, 2)
        counted(book)
        self.assertEqual((book, others), (before, [1, 0]))

    def test_what_is_told_is_the_askers_own(self):
        book = book_of((1, 1), [((1, 0), 0), ((0, 1), 0), ((1, 1), 0)])
        for others, rule in (([0, 1], 2), ([1, 2], 0), ([], 1)):
            first = needless(book, others, rule)
            before = copy.deepcopy(first)
            second = needless(book, others, rule)
            second[-1].append(7)
            second[-1][0] = None
            self.assertEqual(first, before)
            self.assertEqual(needless(book, others, rule), before)


class Counted(Judged):
    def test_one_rule(self):
        self.assertEqual(counted(book_of((0,), [((1,), 0)])), [0])
        self.assertEqual(counted(book_of((0, 5), [((0, -1), 7)])), [0])
        self.assertEqual(counted(book_of((0,), [((0,), 0)])), [])
        self.assertEqual(counted(book_of((0,), [((0,), 3)])), [])

    def test_two_like_rules(self):
        self.assertEqual(counted(book_of((1,), [((1,), 0), ((1,), 0)])), [1])
        self.assertEqual(counted(book_of((1,), [((1,), 0), ((2,), 0), ((3,), 0)])), [2])
        self.assertEqual(counted(book_of((1,), [((1,), 0), ((-1,), 1), ((1,), 0), ((-1,), 1)])), [2, 3])

    def test_the_sum_of_two_others_wherever_it_stands(self):
        rules = [((1, 0), 0), ((0, 1), 0), ((1, 1), 0)]
        for order in itertools.permutations(range(3)):
            told = counted(book_of((1, 1), [rules[place] for place in order]))
            self.assertEqual(told, [place for place in range(3) if order[place] != 2])

    def test_one_left_out_is_no_longer_beside(self):
        # Each of the last two is needless beside the three others, but not both at once.
        rules = [((1, 0), 0), ((-1, 0), 0), ((1, 1), 0), ((0, 1), 0)]
        self.assertEqual(counted(book_of((0, 0), rules)), [0, 1, 3])
        self.assertEqual(counted(book_of((0, 0), [rules[0], rules[1], rules[3], rules[2]])), [0, 1, 3])

    def test_more_to_spare(self):
        self.assertEqual(counted(book_of((5,), [((1,), 0), ((1,), 1)])), [0])
        self.assertEqual(counted(book_of((5,), [((1,), 1), ((1,), 0)])), [1])

    def test_five_rules(self):
        box = [((1, 0), 0), ((0, 1), 0), ((-1, 0), 4), ((0, -1), 4)]
        self.assertEqual(counted(book_of((1, 1), box + [((-1, -1), 8)])), [0, 1, 2, 3])
        self.assertEqual(counted(book_of((1, 1), [((-1, -1), 8)] + box)), [1, 2, 3, 4])
        self.assertEqual(counted(book_of((1, 1), box + [((-1, -1), 7)])), [0, 1, 2, 3, 4])
        self.assertEqual(counted(book_of((1, 1), box + [((0, 0), 0)])), [0, 1, 2, 3])
        self.assertEqual(counted(book_of((1, 1), [((0, 0), 0)] * 5)), [])

    def test_points_are_of_fractions_not_of_whole_numbers_alone(self):
        self.assertEqual(counted(book_of((1,), [((2,), -1), ((1,), -1)])), [1])
        self.assertEqual(counted(book_of((1,), [((1,), -1), ((2,), -1)])), [0])

    def test_thirty_figures(self):
        self.assertEqual(counted(book_of((0,), [((BIG,), 1), ((BIG - 1,), 1)])), [0])
        self.assertEqual(counted(book_of((0, 0), [((BIG, 1), 0), ((BIG, 2), 0), ((-BIG, -1), 0)])), [0, 1, 2])

    def test_by_chance(self):
        chance = random.Random(44)
        sizes = {}
        for round in range(800):
            book = any_book(chance, chance.choice((1, 2)))
            left = list(range(len(book[1])))
            for rule in range(len(book[1])):
                others = [place for place in left if place != rule]
                if self.judge(book, others, rule) == "weights":
                    left.remove(rule)
            told = counted(book)
            self.assertIs(type(told), list)
            self.assertEqual(told, left)
            sizes[len(told)] = sizes.get(len(told), 0) + 1
        self.assertEqual(sorted(sizes), [0, 1, 2, 3, 4, 5])

    def test_what_is_told_is_the_askers_own(self):
        book = book_of((1, 1), [((1, 0), 0), ((0, 1), 0), ((1, 1), 0)])
        first = counted(book)
        second = counted(book)
        second.clear()
        self.assertEqual(first, [0, 1])
        self.assertEqual(counted(book), [0, 1])


if __name__ == "__main__":
    unittest.main()
