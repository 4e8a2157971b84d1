"""Points 2, 3 and 12, and the interface of apartbook.solving."""

import copy
import itertools
import random
import unittest

from apartbook.solving import holds_at, shows_none, solved
from helper import holds_by_fractions, is_point, show_none

BIG = 10 ** 30 - 1


def at_least(coefficients, rest):
    return (coefficients, rest, False)


def above(coefficients, rest):
    return (coefficients, rest, True)


def any_inequality(chance, unknowns, most):
    coefficients = tuple(chance.randint(-most, most) for unknown in range(unknowns))
    return (coefficients, chance.randint(-most, most), chance.random() < 0.4)


class Judged(unittest.TestCase):
    def judge(self, inequalities, unknowns):
        """Looks whether what solved tells is so, and gives back which of both it told."""
        answer = solved(inequalities, unknowns)
        self.assertIs(type(answer), tuple)
        self.assertEqual(len(answer), 2)
        if answer[0] == "point":
            self.assertTrue(is_point(answer[1], unknowns), answer)
            for inequality in inequalities:
                self.assertTrue(holds_by_fractions(inequality, answer[1]), (inequalities, answer))
                self.assertIs(holds_at(inequality, answer[1]), True)
        else:
            self.assertEqual(answer[0], "weights")
            self.assertTrue(show_none(inequalities, unknowns, answer[1]), (inequalities, answer))
            self.assertIs(shows_none(inequalities, unknowns, answer[1]), True)
        return answer[0]

    def points(self, inequalities, unknowns):
        self.assertEqual(self.judge(inequalities, unknowns), "point", inequalities)

    def none(self, inequalities, unknowns):
        self.assertEqual(self.judge(inequalities, unknowns), "weights", inequalities)


class Solved(Judged):
    def test_no_inequalities_and_no_unknowns(self):
        self.assertEqual(solved([], 0), ("point", []))

    def test_unknowns_that_no_inequality_names(self):
        for unknowns in range(1, 5):
            self.points([], unknowns)
            self.points([at_least((0,) * unknowns, 0), above((0,) * unknowns, 1)], unknowns)
            self.none([above((0,) * unknowns, 0)], unknowns)
        self.points([above((0, 3, 0), -1), above((0, -2, 0), 1)], 3)
        self.none([above((0, 3, 0), -2), above((0, -2, 0), 1)], 3)

    def test_inequalities_without_unknowns(self):
        for rest in (1, 5, BIG):
            self.points([at_least((), rest)], 0)
            self.points([above((), rest)], 0)
        self.points([at_least((), 0)], 0)
        self.none([above((), 0)], 0)
        for rest in (-1, -5, -BIG):
            self.none([at_least((), rest)], 0)
            self.none([above((), rest)], 0)

    def test_one_bad_one_without_unknowns_among_good_ones(self):
        good = [at_least((1,), 3), at_least((-1,), 3), above((0,), 2), at_least((0,), 0)]
        self.points(good, 1)
        for place in range(5):
            for bad in (above((0,), 0), at_least((0,), -1), above((0,), -1)):
                self.none(good[:place] + [bad] + good[place:], 1)

    def test_one_unknown_bounded_on_one_side(self):
        for rest in (-7, -1, 0, 1, 7):
            for coefficient in (-3, -1, 1, 3):
                self.points([at_least((coefficient,), rest)], 1)
                self.points([above((coefficient,), rest)], 1)

    def test_bounds_that_meet(self):
        for top, bottom in ((0, 1), (2, 1), (-7, 3), (5, 4)):
            low = (bottom,), -top
            high = (-bottom,), top
            self.assertEqual(solved([at_least(*low), at_least(*high)], 1), ("point", [(top, bottom)]))
            self.none([above(*low), at_least(*high)], 1)
            self.none([at_least(*low), above(*high)], 1)
            self.none([above(*low), above(*high)], 1)

    def test_bounds_that_cross(self):
        self.none([at_least((3,), -2), at_least((-2,), 1)], 1)
        self.none([at_least((1,), -BIG), at_least((-1,), BIG - 1)], 1)

    def test_strict_bounds_with_little_between(self):
        self.points([above((3,), -1), above((-2,), 1)], 1)
        self.points([above((1,), 0), above((-1,), 1)], 1)
        self.points([above((1,), 1), above((-1,), 0)], 1)
        self.points([above((BIG,), -1), above((1 - BIG,), 1)], 1)

    def test_three_that_meet_at_one_point(self):
        sides = [(1, 0), 0], [(0, 1), 0], [(-1, -1), 0]
        for strict in itertools.product((False, True), repeat=3):
            inequalities = [(tuple(side[0]), side[1], one) for side, one in zip(sides, strict)]
            if any(strict):
                self.none(inequalities, 2)
            else:
                self.assertEqual(solved(inequalities, 2), ("point", [(0, 1), (0, 1)]))

    def test_strict_ones_that_meet_at_a_point_of_fractions(self):
        met = [((2, 3), -1), ((-2, -3), 1), ((5, -1), 0), ((-5, 1), 0)]
        self.assertEqual(solved([at_least(*one) for one in met], 2), ("point", [(1, 17), (5, 17)]))
        for place in range(4):
            self.none([(one[0], one[1], number == place) for number, one in enumerate(met)], 2)

    def test_four_unknowns_that_are_bounded_by_five(self):
        sides = [tuple(int(a == b) for a in range(4)) for b in range(4)]
        inequalities = [at_least(side, 0) for side in sides]
        self.points(inequalities + [at_least((-1,) * 4, 0)], 4)
        self.none(inequalities + [above((-1,) * 4, 0)], 4)
        self.none(inequalities + [at_least((-2, -3, -5, -7), -1)], 4)
        self.points([above(side, 0) for side in sides] + [above((-1,) * 4, 1)], 4)

    def test_a_ring_of_strict_ones(self):
        ring = [(1, -1, 0, 0), (0, 1, -1, 0), (0, 0, 1, -1), (-1, 0, 0, 1)]
        self.points([at_least(side, 0) for side in ring], 4)
        self.none([at_least(side, 0) for side in ring[:3]] + [above(ring[3], 0)], 4)
        self.points([above(side, 0) for side in ring[:3]] + [at_least(ring[3], 4)], 4)

    def test_a_plane_and_what_lies_off_it(self):
        plane = [at_least((1, 1, 1), -1), at_least((-1, -1, -1), 1)]
        self.points(plane, 3)
        self.points(plane + [above((2, 1, 1), -1)], 3)
        self.none(plane + [above((2, 2, 2), -2)], 3)

    def test_an_inequality_twice(self):
        self.points([above((1, 2), 3)] * 6, 2)
        self.none([above((1, 2), 3), above((-1, -2), -3)] * 3, 2)

    def test_all_small_ones_in_one_unknown(self):
        one = [((a,), b, strict) for a in (-2, 0, 1) for b in (-1, 0, 1) for strict in (False, True)]
        for inequalities in itertools.combinations_with_replacement(one, 3):
            self.judge(list(inequalities), 1)

    def test_small_ones_by_chance(self):
        chance = random.Random(12)
        told = {"point": 0, "weights": 0}
        for round in range(6000):
            unknowns = chance.randint(0, 4)
            most = chance.choice((1, 1, 2, 5))
            inequalities = [any_inequality(chance, unknowns, most) for row in range(chance.randint(0, 6))]
            told[self.judge(inequalities, unknowns)] += 1
        self.assertGreater(min(told.values()), 1000)

    def test_ones_that_all_go_through_one_point(self):
        chance = random.Random(13)
        told = {"point": 0, "weights": 0}
        for round in range(2000):
            unknowns = chance.randint(1, 4)
            point = [chance.randint(-3, 3) for unknown in range(unknowns)]
            inequalities = []
            for row in range(6):
                coefficients = tuple(chance.randint(-2, 2) for unknown in range(unknowns))
                rest = -sum(a * b for a, b in zip(coefficients, point))
                inequalities.append((coefficients, rest, chance.random() < 0.3))
            told[self.judge(inequalities, unknowns)] += 1
        self.assertGreater(min(told.values()), 300)

    def test_numbers_of_thirty_figures(self):
        chance = random.Random(30)
        told = {"point": 0, "weights": 0}
        for round in range(300):
            unknowns = chance.randint(1, 4)
            told[self.judge([any_inequality(chance, unknowns, BIG) for row in range(6)], unknowns)] += 1
        self.assertGreater(min(told.values()), 20)
        self.assertEqual(solved([at_least((BIG,), 1), at_least((-BIG,), -1)], 1), ("point", [(-1, BIG)]))

    def test_somewhat_beyond_the_bounds(self):
        chance = random.Random(31)
        for round in range(10):
            self.judge([any_inequality(chance, 6, 3) for row in range(9)], 6)
            self.judge([any_inequality(chance, 5, 10 ** 40) for row in range(8)], 5)

    def test_the_same_in_another_order(self):
        chance = random.Random(14)
        for round in range(12):
            inequalities = [any_inequality(chance, 2, 2) for row in range(5)]
            told = {self.judge(list(order), 2) for order in itertools.permutations(inequalities)}
            self.assertEqual(len(told), 1)
        for round in range(200):
            inequalities = [any_inequality(chance, 4, 2) for row in range(6)]
            told = self.judge(inequalities, 4)
            for turn in range(5):
                chance.shuffle(inequalities)
                self.assertEqual(self.judge(inequalities, 4), told)

    def test_what_was_told_may_be_handed_in_again(self):
        chance = random.Random(15)
        coefficients = [any_inequality(chance, 4, BIG) for row in range(3)]
        point = solved(coefficients, 4)[1]
        for round in range(3):
            tops = tuple(number[0] for number in point)
            bottoms = tuple(-number[1] for number in point)
            point = solved([above(tops, -1), at_least(bottoms, 1)], 4)[1]
            self.points([above(tops, -1), at_least(bottoms, 1)], 4)
        weights = solved([at_least((BIG,), -BIG + 1), at_least((2 - BIG,), 1)], 1)[1]
        self.none([at_least((weights[0],), -1), at_least((-weights[0],), -weights[1])], 1)

    def test_called_by_the_names_of_the_arguments(self):
        self.assertEqual(solved(inequalities=[], unknowns=0), ("point", []))

    def test_what_was_handed_in_stays(self):
        chance = random.Random(16)
        for round in range(100):
            inequalities = [any_inequality(chance, 3, 2) for row in range(5)]
            before = copy.deepcopy(inequalities)
            solved(inequalities, 3)
            self.assertEqual(inequalities, before)

    def test_what_is_told_is_the_askers_own(self):
        for inequalities in ([at_least((1,), 3)], [above((1,), 3), above((-1,), -3)], [at_least((0,), -1)]):
            first = solved(inequalities, 1)
            before = copy.deepcopy(first)
            second = solved(inequalities, 1)
            second[1].append(7)
            second[1][0] = None
            self.assertEqual(first, before)
            self.assertEqual(solved(inequalities, 1), before)


class HoldsAt(unittest.TestCase):
    def told(self, inequality, point, answer):
        self.assertIs(holds_at(inequality, point), answer, (inequality, point))

    def test_no_unknowns(self):
        for rest, not_strict, strict in ((-1, False, False), (0, True, False), (1, True, True)):
            self.told(at_least((), rest), [], not_strict)
            self.told(above((), rest), [], strict)

    def test_fractions(self):
        point = [(1, 2), (-2, 3)]
        for coefficients, rest, not_strict, strict in (
            ((2, 3), 1, True, False), ((2, 3), 2, True, True), ((2, 3), 0, False, False),
            ((4, 3), 0, True, False), ((0, -1), 0, True, True), ((1, 1), 0, False, False),
            ((6, 6), 1, True, False), ((7, 6), 1, True, True), ((6, 7), 1, False, False),
        ):
            self.told(at_least(coefficients, rest), point, not_strict)
            self.told(above(coefficients, rest), point, strict)

    def test_little_above_and_below_nought(self):
        for bottom in (3, BIG, 10 ** 3000):
            self.told(above((1,), 0), [(1, bottom)], True)
            self.told(at_least((1,), 0), [(-1, bottom)], False)
            self.told(at_least((bottom,), -1), [(1, bottom)], True)
            self.told(above((bottom,), -1), [(1, bottom)], False)
            self.told(at_least((1, 1), -1), [(1, bottom), (bottom - 2, bottom)], False)

    def test_by_chance(self):
        chance = random.Random(17)
        for round in range(2000):
            unknowns = chance.randint(0, 4)
            most = chance.choice((1, 3, BIG))
            inequality = any_inequality(chance, unknowns, most)
            point = [(chance.randint(-most, most) * 7 + 1, 7) for unknown in range(unknowns)]
            self.told(inequality, point, holds_by_fractions(inequality, point))

    def test_called_by_the_names_of_the_arguments(self):
        self.assertIs(holds_at(inequality=above((2,), 0), point=[(1, 3)]), True)

    def test_what_was_handed_in_stays(self):
        point = [(1, 2), (3, 4)]
        holds_at(above((1, 1), 0), point)
        self.assertEqual(point, [(1, 2), (3, 4)])


class ShowsNone(unittest.TestCase):
    def told(self, inequalities, unknowns, weights, answer):
        self.assertIs(shows_none(inequalities, unknowns, weights), answer, (inequalities, weights))

    def test_no_inequalities(self):
        self.told([], 0, [], False)
        self.told([], 3, [], False)
        self.told([], 0, [1], False)

    def test_rests_below_nought(self):
        pair = [at_least((1,), -2), at_least((-1,), 1)]
        for weights in ([1, 1], [2, 2], [BIG, BIG], [10 ** 5000, 10 ** 5000]):
            self.told(pair, 1, weights, True)
        for weights in ([1, 0], [0, 1], [1, 2], [2, 1], [0, 0]):
            self.told(pair, 1, weights, False)

    def test_numbers_below_nought(self):
        pair = [at_least((1,), -2), at_least((-1,), 1)]
        self.told(pair, 1, [-1, -1], False)
        self.told([at_least((), 1)], 0, [-1], False)
        self.told([at_least((), -1), at_least((), 0)], 0, [1, -1], False)
        self.told([at_least((), -1), at_least((), 0)], 0, [1, 1], True)
        self.told([above((), 0), above((), 0)], 0, [1, -1], False)
        self.told([at_least((1,), -1), at_least((1,), 0)], 1, [1, -1], False)

    def test_lists_of_other_lengths(self):
        pair = [at_least((1,), -2), at_least((-1,), 1)]
        for length in range(21):
            self.told(pair, 1, [1] * length, length == 2)
            self.told(pair, 1, ([1, 1] + [0] * length)[:length], length == 2)
        self.told([at_least((), -1), at_least((), 0)], 0, [1], False)

    def test_noughts_alone(self):
        for size in range(7):
            self.told([above((1, 2), -1)] * size, 2, [0] * size, False)
            self.told([at_least((0, 0), -1)] * size, 2, [0] * size, False)

    def test_a_sum_of_nought(self):
        for first, second, third, answer in (
            (False, False, False, False), (True, False, False, True), (False, True, False, True),
            (True, True, True, True), (False, False, True, False),
        ):
            trio = [((1,), 3, first), ((-2,), -6, second), ((0,), 0, third)]
            self.told(trio, 1, [2, 1, 0], answer)
        self.told([at_least((1,), 3), at_least((-2,), -6), above((0,), 0)], 1, [2, 1, 5], True)

    def test_a_sum_above_nought(self):
        self.told([above((1,), 3), above((-1,), -2)], 1, [1, 1], False)
        self.told([at_least((), 1)], 0, [1], False)

    def test_unknowns_that_are_left(self):
        trio = [at_least((1, 0), -1), at_least((-1, 1), 0), at_least((0, -1), 0)]
        self.told(trio, 2, [1, 1, 1], True)
        self.told(trio, 2, [1, 1, 0], False)
        self.told(trio, 2, [0, 1, 1], False)
        self.told(trio, 2, [1, 0, 1], False)

    def test_by_chance(self):
        chance = random.Random(18)
        told = {True: 0, False: 0}
        for round in range(8000):
            unknowns = chance.randint(0, 2)
            inequalities = [any_inequality(chance, unknowns, 1) for row in range(chance.randint(0, 4))]
            size = max(0, len(inequalities) + chance.choice((0, 0, 0, 0, 1, -1)))
            weights = [chance.choice((0, 1, 1, 2, 2, -1)) for row in range(size)]
            answer = show_none(inequalities, unknowns, weights)
            told[answer] += 1
            self.told(inequalities, unknowns, weights, answer)
        self.assertGreater(min(told.values()), 300)

    def test_never_beside_a_point(self):
        chance = random.Random(19)
        for round in range(2000):
            unknowns = chance.randint(0, 2)
            inequalities = [any_inequality(chance, unknowns, 1) for row in range(4)]
            if solved(inequalities, unknowns)[0] == "point":
                for weights in itertools.product((0, 1, 2), repeat=4):
                    self.told(inequalities, unknowns, list(weights), False)

    def test_called_by_the_names_of_the_arguments(self):
        self.assertIs(shows_none(inequalities=[above((), 0)], unknowns=0, weights=[1]), True)

    def test_what_was_handed_in_stays(self):
        inequalities = [at_least((1,), -2), at_least((-1,), 1)]
        weights = [1, 1]
        shows_none(inequalities, 1, weights)
        self.assertEqual((inequalities, weights), ([at_least((1,), -2), at_least((-1,), 1)], [1, 1]))


if __name__ == "__main__":
    unittest.main()
