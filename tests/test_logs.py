"""Points 2, 3, 15 and 16, and the interface of apartbook.logs."""

import copy
import itertools
import random
import unittest

from apartbook.logs import Log

from helper import PlainLog


def row(house, number, *causes):
    return (house, number, causes, ("do", 0, number))


def done_by_houses(chance, houses, size):
    """Rows that houses made which heard of one another by chance, in the order of their making."""
    logs = [PlainLog(houses) for house in range(houses)]
    made = []
    for turn in range(size):
        house = chance.randrange(houses)
        for one in chance.sample(made, min(len(made), chance.randint(0, 3))):
            logs[house].take(one)
        counts = logs[house].counts()
        deed = chance.choice((("do", 1, turn), ("give", 0, (house + 1) % houses, turn + 1)))
        made.append((house, counts[house], counts, deed))
        logs[house].take(made[-1])
    return made


class LogTakes(unittest.TestCase):
    def looks(self, log, counts, rows, waiting):
        self.assertEqual((log.counts(), log.rows(), log.waiting()), (counts, rows, waiting))

    def test_an_empty_log(self):
        for houses in (2, 3, 4):
            self.looks(Log(houses), (0,) * houses, [], [])

    def test_a_row_is_taken(self):
        log = Log(2)
        self.assertEqual(log.take(row(1, 0, 0, 0)), "taken")
        self.looks(log, (0, 1), [row(1, 0, 0, 0)], [])

    def test_a_row_is_known(self):
        log = Log(2)
        rows = [row(0, 0, 0, 0), row(0, 1, 1, 0), row(1, 0, 2, 0)]
        for one in rows:
            self.assertEqual(log.take(one), "taken")
        for one in rows:
            self.assertEqual(log.take(one), "known")
        self.looks(log, (2, 1), rows, [])

    def test_a_row_waits_for_one_of_its_own_house(self):
        log = Log(2)
        self.assertEqual(log.take(row(0, 1, 1, 0)), "waits")
        self.looks(log, (0, 0), [], [(0, 1)])
        self.assertEqual(log.take(row(0, 0, 0, 0)), "taken")
        self.looks(log, (2, 0), [row(0, 0, 0, 0), row(0, 1, 1, 0)], [])

    def test_a_row_waits_for_one_of_another_house(self):
        log = Log(3)
        self.assertEqual(log.take(row(0, 0, 0, 0, 1)), "waits")
        self.assertEqual(log.take(row(1, 0, 0, 0, 0)), "taken")
        self.looks(log, (0, 1, 0), [row(1, 0, 0, 0, 0)], [(0, 0)])
        self.assertEqual(log.take(row(2, 0, 0, 0, 0)), "taken")
        self.looks(log, (1, 1, 1), [row(1, 0, 0, 0, 0), row(2, 0, 0, 0, 0), row(0, 0, 0, 0, 1)], [])

    def test_causes_that_are_less_than_what_was_taken(self):
        log = Log(2)
        for number in range(3):
            log.take(row(0, number, number, 0))
        self.assertEqual(log.take(row(1, 0, 1, 0)), "taken")
        self.assertEqual(log.take(row(1, 1, 3, 1)), "taken")
        self.assertEqual(log.take(row(1, 2, 4, 2)), "waits")
        self.assertEqual(log.counts(), (3, 2))

    def test_one_that_waits_already(self):
        log = Log(2)
        for turn in range(3):
            self.assertEqual(log.take(row(1, 1, 0, 1)), "waits")
            self.looks(log, (0, 0), [], [(1, 1)])
        log.take(row(1, 0, 0, 0))
        self.looks(log, (0, 2), [row(1, 0, 0, 0), row(1, 1, 0, 1)], [])
        self.assertEqual(log.take(row(1, 1, 0, 1)), "known")
        self.looks(log, (0, 2), [row(1, 0, 0, 0), row(1, 1, 0, 1)], [])

    def test_what_waits_is_told_ascending(self):
        log = Log(3)
        for one in (row(2, 1, 0, 0, 1), row(0, 10, 10, 0, 0), row(1, 3, 0, 3, 0), row(0, 2, 2, 0, 0)):
            self.assertEqual(log.take(one), "waits")
        self.assertEqual(log.waiting(), [(0, 2), (0, 10), (1, 3), (2, 1)])

    def test_a_lesser_house_goes_first(self):
        log = Log(3)
        log.take(row(1, 0, 0, 0, 1))
        log.take(row(0, 0, 0, 0, 1))
        self.assertEqual(log.take(row(2, 0, 0, 0, 0)), "taken")
        self.assertEqual([one[:2] for one in log.rows()], [(2, 0), (0, 0), (1, 0)])

    def test_behind_each_taken_row_the_first_ones_are_asked_again(self):
        log = Log(3)
        for one in (row(1, 1, 0, 1, 1), row(0, 0, 0, 1, 1), row(1, 0, 0, 0, 1)):
            self.assertEqual(log.take(one), "waits")
        self.assertEqual(log.take(row(2, 0, 0, 0, 0)), "taken")
        self.assertEqual([one[:2] for one in log.rows()], [(2, 0), (1, 0), (0, 0), (1, 1)])
        self.assertEqual(log.waiting(), [])

    def test_all_of_a_lesser_house_go_ahead(self):
        log = Log(2)
        for number in (3, 1, 2):
            log.take(row(1, number, 0, number))
        for number in (2, 1):
            log.take(row(0, number, number, 1))
        log.take(row(0, 0, 0, 1))
        log.take(row(1, 0, 0, 0))
        self.assertEqual([one[:2] for one in log.rows()], [(1, 0), (0, 0), (0, 1), (0, 2), (1, 1), (1, 2), (1, 3)])

    def test_those_that_can_not_be_taken_stay(self):
        log = Log(2)
        for number in (1, 2, 4, 5):
            log.take(row(0, number, number, 0))
        log.take(row(0, 0, 0, 0))
        self.assertEqual((log.counts(), log.waiting()), ((3, 0), [(0, 4), (0, 5)]))

    def test_rows_that_wait_for_one_another(self):
        log = Log(2)
        self.assertEqual(log.take(row(0, 0, 0, 1)), "waits")
        self.assertEqual(log.take(row(1, 0, 1, 0)), "waits")
        self.looks(log, (0, 0), [], [(0, 0), (1, 0)])

    def test_the_rows_are_those_that_were_handed_in(self):
        rows = [
            (0, 0, (0, 0), ("do", 3, -(10 ** 30) + 1)),
            (1, 0, (1, 0), ("give", 2, 0, 10 ** 30 - 1)),
            (0, 1, (1, 1), ("do", 0, 0)),
        ]
        log = Log(2)
        for one in rows[::-1]:
            log.take(one)
        self.looks(log, (2, 1), rows, [])

    def test_every_order_of_six_rows(self):
        rows = [
            row(0, 0, 0, 0, 0), row(1, 0, 0, 0, 0), row(2, 0, 1, 0, 0),
            row(0, 1, 1, 0, 1), row(1, 1, 1, 1, 1), row(2, 1, 2, 0, 1),
        ]
        for order in itertools.permutations(rows):
            self.compare(3, order)

    def test_any_rows_in_any_order(self):
        chance = random.Random(61)
        for round in range(150):
            houses = chance.randint(2, 4)
            rows = done_by_houses(chance, houses, chance.randint(1, 14))
            handed = rows + chance.choices(rows, k=5)
            chance.shuffle(handed)
            log = self.compare(houses, handed)
            self.assertEqual(log.waiting(), [])
            self.assertEqual(sorted(log.rows()), sorted(rows))
            self.compare(houses, handed[:len(handed) // 2])

    def compare(self, houses, handed):
        log = Log(houses)
        plain = PlainLog(houses)
        for one in handed:
            self.assertEqual(log.take(one), plain.take(one))
            self.looks(log, plain.counts(), plain.taken, sorted(plain.wait))
        return log

    def test_as_many_rows_as_the_bounds_let(self):
        rows = [row(house, number, *[number] * 4) for number in range(200) for house in range(4)]
        log = Log(4)
        for one in rows[:0:-1]:
            self.assertEqual(log.take(one) == "taken", one[1] == 0)
        self.assertEqual(log.counts(), (0, 1, 1, 1))
        self.assertEqual(log.take(rows[0]), "taken")
        self.assertEqual(log.counts(), (200,) * 4)
        self.assertEqual(sorted(log.rows()), sorted(rows))

    def test_two_logs_are_apart(self):
        first = Log(2)
        second = Log(2)
        first.take(row(0, 0, 0, 0))
        first.take(row(1, 1, 0, 1))
        self.looks(second, (0, 0), [], [])

    def test_kinds(self):
        log = Log(2)
        log.take(row(0, 0, 0, 0))
        log.take(row(0, 2, 2, 0))
        kinds = [type(told) for told in (log.counts(), log.rows(), log.waiting(), log.rows()[0], log.waiting()[0])]
        self.assertEqual(kinds, [tuple, list, list, tuple, tuple])

    def test_called_by_the_names_of_the_arguments(self):
        self.assertEqual(Log(houses=2).take(row=row(0, 0, 0, 0)), "taken")

    def test_a_change_of_a_list_that_was_told_changes_nothing(self):
        log = Log(2)
        log.take(row(0, 0, 0, 0))
        log.take(row(1, 1, 0, 1))
        log.rows().clear()
        log.waiting().clear()
        log.rows().append(row(1, 0, 0, 0))
        log.waiting().append((1, 0))
        self.looks(log, (1, 0), [row(0, 0, 0, 0)], [(1, 1)])
        self.assertEqual(log.take(row(1, 0, 0, 0)), "taken")
        self.looks(log, (1, 2), [row(0, 0, 0, 0), row(1, 0, 0, 0), row(1, 1, 0, 1)], [])

    def test_what_was_told_stays_when_more_is_taken(self):
        log = Log(2)
        log.take(row(0, 0, 0, 0))
        log.take(row(1, 1, 0, 1))
        told = (log.counts(), log.rows(), log.waiting())
        before = copy.deepcopy(told)
        log.take(row(1, 0, 0, 0))
        log.take(row(0, 3, 3, 0))
        self.assertEqual(told, before)


if __name__ == "__main__":
    unittest.main()
