"""Points 2, 3 and 14, and the interface of apartbook.deals."""

import itertools
import random
import unittest
from fractions import Fraction

from apartbook.deals import dealt

BIG = 10 ** 30 - 1


def by_fractions(number, weights):
    parts = [Fraction(number * weight, sum(weights)) for weight in weights]
    shares = [part.numerator // part.denominator for part in parts]
    rests = [part - share for part, share in zip(parts, shares)]
    while sum(shares) < number:
        house = rests.index(max(rests))
        shares[house] += 1
        rests[house] = Fraction(-1)
    return shares


class Dealt(unittest.TestCase):
    def test_what_goes_even(self):
        self.assertEqual(dealt(10, [1, 1]), [5, 5])
        self.assertEqual(dealt(12, [1, 2, 3]), [2, 4, 6])
        self.assertEqual(dealt(7, [3, 4]), [3, 4])

    def test_a_number_of_nought(self):
        for weights in ([1, 1], [0, 5], [3, 1, 2], [BIG, 0, 0, 1]):
            self.assertEqual(dealt(0, weights), [0] * len(weights))

    def test_weights_of_nought_among_others(self):
        self.assertEqual(dealt(7, [0, 1]), [0, 7])
        self.assertEqual(dealt(7, [1, 0]), [7, 0])
        self.assertEqual(dealt(7, [0, 1, 0, 1]), [0, 4, 0, 3])
        self.assertEqual(dealt(1, [0, 0, 0, 9]), [0, 0, 0, 1])

    def test_like_rests(self):
        self.assertEqual(dealt(1, [1, 1]), [1, 0])
        self.assertEqual(dealt(5, [2, 2]), [3, 2])
        self.assertEqual(dealt(1, [1, 1, 1, 1]), [1, 0, 0, 0])
        self.assertEqual(dealt(2, [1, 1, 1, 1]), [1, 1, 0, 0])
        self.assertEqual(dealt(7, [1, 1, 1, 1]), [2, 2, 2, 1])
        self.assertEqual(dealt(2, [2, 1, 1]), [1, 1, 0])
        self.assertEqual(dealt(3, [2, 1, 1]), [1, 1, 1])

    def test_the_greatest_rests_go_first(self):
        self.assertEqual(dealt(1, [1, 2]), [0, 1])
        self.assertEqual(dealt(1, [1, 3, 2]), [0, 1, 0])
        self.assertEqual(dealt(10, [1, 2, 3, 1]), [2, 3, 4, 1])
        self.assertEqual(dealt(5, [1, 1, 5]), [1, 1, 3])
        self.assertEqual(dealt(2, [3, 3, 4]), [1, 0, 1])

    def test_a_lesser_weight_may_have_the_greater_rest(self):
        self.assertEqual(dealt(4, [1, 2]), [1, 3])
        self.assertEqual(dealt(2, [1, 2]), [1, 1])
        self.assertEqual(dealt(5, [3, 1]), [4, 1])
        self.assertEqual(dealt(7, [3, 1]), [5, 2])

    def test_thirty_figures(self):
        self.assertEqual(dealt(BIG, [1, 1]), [(BIG + 1) // 2, BIG // 2])
        self.assertEqual(dealt(BIG, [BIG, BIG - 1]), [BIG // 2 + 1, BIG // 2])
        self.assertEqual(dealt(1, [BIG, BIG - 1, BIG, 0]), [1, 0, 0, 0])
        self.assertEqual(dealt(10 ** 3000, [1, 3]), [10 ** 3000 // 4, 3 * (10 ** 3000 // 4)])

    def test_all_small_ones(self):
        for houses in (2, 3):
            for weights in itertools.product(range(4), repeat=houses):
                if any(weights):
                    for number in range(13):
                        self.assertEqual(dealt(number, list(weights)), by_fractions(number, weights))

    def test_by_chance(self):
        chance = random.Random(51)
        for round in range(2000):
            most = chance.choice((3, 20, BIG))
            weights = [chance.choice((0, chance.randint(0, most))) for house in range(chance.randint(2, 4))]
            weights[chance.randrange(len(weights))] = chance.randint(1, most)
            number = chance.randint(0, chance.choice((5, 100, BIG)))
            shares = dealt(number, weights)
            self.assertEqual(sum(shares), number)
            self.assertEqual(shares, by_fractions(number, weights))

    def test_kinds(self):
        told = dealt(7, [1, 0, 2])
        self.assertIs(type(told), list)
        self.assertEqual([type(share) for share in told], [int] * 3)

    def test_called_by_the_names_of_the_arguments(self):
        self.assertEqual(dealt(number=3, weights=[1, 2]), [1, 2])

    def test_what_was_handed_in_stays(self):
        weights = [2, 0, 1]
        dealt(5, weights)
        self.assertEqual(weights, [2, 0, 1])

    def test_what_is_told_is_the_askers_own(self):
        weights = [2, 0, 1]
        first = dealt(5, weights)
        second = dealt(5, weights)
        second[0] = 99
        second.append(1)
        self.assertEqual(first, [3, 0, 2])
        self.assertEqual(dealt(5, weights), [3, 0, 2])


if __name__ == "__main__":
    unittest.main()
