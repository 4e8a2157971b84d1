"""Points 2, 3 and 21, and the interface of apartbook.papers."""

import copy
import random
import unittest

from apartbook.books import read_book
from apartbook.houses import House
from apartbook.papers import paper_of, risen

from helper import FARM, any_book, outcome, talk, told_by

BOOK = read_book(FARM)

NEW = """house 0 of 2
base 0 0
state 10 4
shares full 5 5
shares rich 2 2
knows 0 0
knows 0 0"""

FOLDED = """house 1 of 2
base 3 1
state 6 10
shares full 3 3
shares rich 5 5
knows 3 1
knows 0 1
1 1 3 1 do buy 1
1 2 3 2 do rest -2
1 3 3 3 give full 0 1"""


def two():
    """Two houses with some rows that both know of, the second one with three rows more."""
    houses = [House(BOOK, [1, 1], own) for own in range(2)]
    talk(houses, [houses[0].do("sell", 2), houses[1].do("feed", 1), houses[0].give("rich", 1, 3)])
    talk(houses, [houses[0].do("rest", 0)])
    houses[1].do("buy", 1)
    houses[1].do("rest", -2)
    houses[1].give("full", 0, 1)
    return houses


def refusal(text, book=BOOK, weights=(1, 1)):
    return outcome(risen, book, list(weights), text)


def with_line(text, line, row):
    lines = text.split("\n")
    lines[line] = row
    return "\n".join(lines)


class Papers(unittest.TestCase):
    def test_a_house_at_its_beginning(self):
        self.assertEqual(paper_of(House(BOOK, [1, 1], 0)), NEW)
        paper = paper_of(House(BOOK, [1, 0, 2, 1], 3))
        self.assertEqual(paper.split("\n"), [
            "house 3 of 4", "base 0 0 0 0", "state 10 4", "shares full 3 0 5 2", "shares rich 1 0 2 1",
        ] + ["knows 0 0 0 0"] * 4)

    def test_rows_that_are_not_folded(self):
        self.assertEqual(paper_of(two()[1]), NEW.replace("house 0", "house 1") + """
1 0 0 0 do feed 1
0 0 0 0 do sell 2
0 1 1 0 give rich 1 3
0 2 2 1 do rest 0
1 1 3 1 do buy 1
1 2 3 2 do rest -2
1 3 3 3 give full 0 1""")

    def test_a_folded_house(self):
        house = two()[1]
        self.assertEqual(house.fold(), 4)
        self.assertEqual(paper_of(house), FOLDED)

    def test_all_is_folded(self):
        houses = two()
        talk(houses, houses[1].rows())
        self.assertEqual(houses[0].fold(), 7)
        self.assertEqual(paper_of(houses[0]), """house 0 of 2
base 3 4
state 7 8
shares full 4 3
shares rich 5 3
knows 3 1
knows 3 4""")

    def test_what_is_known_of_each_by_its_last_folded_row(self):
        houses = [House(BOOK, [1, 1, 1], own) for own in range(3)]
        talk(houses, [houses[0].do("rest", 0)])
        talk(houses, [houses[1].do("rest", 0)])
        talk(houses, [houses[2].do("rest", 0)])
        talk(houses, [houses[0].do("rest", 1)])
        self.assertEqual(houses[0].fold(), 2)
        self.assertEqual(paper_of(houses[0]).split("\n")[5:], [
            "knows 1 0 0", "knows 1 1 0", "knows 0 0 0", "2 0 1 1 0 do rest 0", "0 1 1 1 1 do rest 1",
        ])

    def test_no_rule_is_counted(self):
        book = read_book("item a 7\nrule ever: 3 >= 0\ndeed less n 0 100: a -n")
        house = House(book, [1, 1], 0)
        house.do("less", 8)
        paper = "house 0 of 2\nbase 0 0\nstate 7\nknows 0 0\nknows 0 0\n0 0 0 0 do less 8"
        self.assertEqual(paper_of(house), paper)
        self.assertEqual(risen(book, [1, 1], paper).state(), (-1,))
        line = "0 1 1 0 give ever 1 1"
        self.assertEqual(refusal(paper + "\n" + line, book), ("NoPaper", 6))

    def test_names_that_are_words_of_the_papers(self):
        book = read_book("""item house 9
item of 9
rule base: house >= 0
rule state: of >= 0
rule shares: house + of >= 0
rule do: 20 >= house
rule give: 20 >= of
deed knows n 0 9: house -n
deed do n 0 9: house n
deed give n 0 9: of n
deed of n 0 9: of -n""")
        house = House(book, [1, 1], 1)
        for name in ("knows", "do", "give", "of"):
            house.do(name, 3)
        for name in ("base", "state", "do", "give"):
            house.give(name, 0, 1)
        paper = """house 1 of 2
base 0 0
state 9 9
shares base 5 4
shares state 5 4
shares do 6 5
shares give 6 5
knows 0 0
knows 0 0
1 0 0 0 do knows 3
1 1 0 1 do do 3
1 2 0 2 do give 3
1 3 0 3 do of 3
1 4 0 4 give base 0 1
1 5 0 5 give state 0 1
1 6 0 6 give do 0 1
1 7 0 7 give give 0 1"""
        self.assertEqual(paper_of(house), paper)
        self.assertEqual(told_by(risen(book, [1, 1], paper)), told_by(house))
        for line in ("1 8 0 8 give shares 0 1", "1 8 0 8 do base 1", "1 8 0 8 shares base 1", "1 8 0 8 knows 3"):
            self.assertEqual(refusal(paper + "\n" + line, book), ("NoPaper", 17))

    def test_long_numbers(self):
        most = 10 ** 30 - 1
        book = ([("a", -most)], [("good", (most,), most * most)], [("d", -most, most, ((most, 0),))])
        house = House(book, [1, 1], 0)
        for turn in range(200):
            house.do("d", most)
        house.give("good", 1, most * most * most)
        self.assertEqual(told_by(risen(book, [1, 1], paper_of(house))), told_by(house))
        long = "1" + "0" * 5000
        paper = f"house 0 of 2\nbase {long} 0\nstate -{long}\nshares good 0 -1\nknows 0 0\nknows 0 0"
        house = risen(book, [1, 1], paper)
        self.assertTrue(house.state() == (-10 ** 5000,) and house.counts() == (10 ** 5000, 0))
        self.assertTrue(paper_of(house) == paper)

    def test_kinds_and_names_of_arguments(self):
        house = risen(book=BOOK, weights=[1, 1], text=NEW)
        self.assertIsInstance(house, House)
        self.assertIs(type(paper_of(house=house)), str)
        told = (house.state(), house.shares(1), house.base(), house.surely(1), house.counts(), house.rows())
        self.assertEqual([type(one) for one in told], [tuple, list, tuple, tuple, tuple, list])


class Risen(unittest.TestCase):
    def alike(self, house, weights=(1, 1)):
        paper = paper_of(house)
        made = risen(house.book, list(weights), paper)
        self.assertEqual(paper_of(made), paper)
        self.assertEqual(told_by(made), told_by(house))
        return made

    def test_it_tells_all_the_same(self):
        for own in range(2):
            self.alike(House(BOOK, [1, 1], own))
            self.alike(two()[own])
            house = two()[own]
            house.fold()
            self.alike(house)

    def test_it_does_and_refuses_the_same(self):
        for fold in (False, True):
            house = two()[1]
            if fold:
                house.fold()
            made = self.alike(house)
            tries = [("do", "feed", 3), ("do", "feed", 2), ("give", "rich", 0, 4), ("give", "rich", 0, 3)]
            tries += [("do", "feed", 0), ("give", "full", 0, 1), ("do", "steal", 1), ("do", "feed", 10)]
            tries += [("give", "both", 0, 1), ("give", "full", 1, 1), ("letter", (2, 1)), ("letter", (3, 0)), ("fold",)]
            names = []
            for name, *arguments in tries:
                told = outcome(getattr(made, name), *arguments)
                self.assertEqual(told, outcome(getattr(house, name), *arguments))
                names.append(told[0])
            self.assertIn("ShortShare", names)
            self.assertEqual(told_by(made), told_by(house))

    def test_it_hears_the_same(self):
        first, second = two()
        second.fold()
        made = self.alike(second)
        rows = first.rows() + [first.do("rest", 1), first.do("rest", 2)]
        self.assertEqual([made.hear(row) for row in rows], ["known"] * 4 + ["taken"] * 2)
        self.assertEqual(made.surely(0), (5, 1))

    def test_what_is_known_comes_back(self):
        houses = two()
        talk(houses, houses[1].rows())
        houses[0].fold()
        made = self.alike(houses[0])
        self.assertEqual([made.surely(0), made.surely(1)], [(3, 4), (3, 4)])
        self.assertEqual((made.fold(), made.base()), (0, (3, 4)))

    def test_a_risen_house_folds_as_the_other_would(self):
        house = two()[1]
        made = self.alike(house)
        self.assertEqual([made.fold(), house.fold()], [4, 4])
        self.assertEqual(paper_of(made), paper_of(house))

    def test_what_waits_is_not_in_it(self):
        first, second = two()
        first.do("rest", 1)
        later = first.do("rest", 2)
        paper = paper_of(second)
        second.hear(later)
        self.assertEqual(second.waiting(), [(0, 4)])
        self.assertEqual(paper_of(second), paper)
        made = risen(BOOK, [1, 1], paper)
        self.assertEqual(made.waiting(), [])
        self.assertEqual(made.hear(later), "waits")

    def test_any_houses(self):
        chance = random.Random(81)
        for round in range(60):
            book = any_book(chance)
            houses = chance.randint(2, 4)
            street = [House(book, [1] * houses, own) for own in range(houses)]
            for turn in range(15):
                house = chance.choice(street)
                deed = chance.choice(book[2])
                outcome(house.do, deed[0], chance.randint(deed[1], deed[2]))
                talk([chance.choice(street)], house.rows())
                chance.choice(street).fold()
                for one in street:
                    self.alike(one, [1] * houses)

    def test_the_folded_part_is_not_looked_at(self):
        text = """house 1 of 2
base 7 3
state -5 99
shares full -3 0
shares rich 1000 -1000
knows 0 9
knows 4 0"""
        house = risen(BOOK, [1, 1], text)
        self.assertEqual(paper_of(house), text)
        self.assertEqual((house.state(), house.shares(1), house.shares(2)), ((-5, 99), [-3, 0], [1000, -1000]))
        self.assertEqual((house.base(), house.counts(), house.rows()), ((7, 3), (7, 3), []))
        self.assertEqual([house.surely(0), house.surely(1)], [(0, 9), (7, 3)])
        self.assertEqual((house.fold(), house.base()), (0, (7, 3)))
        self.assertEqual(outcome(house.do, "rest", 0), ("ShortShare", "rich", 1000))

    def test_whether_shares_were_enough_is_not_looked_at(self):
        text = NEW + "\n1 0 0 0 do feed 9\n0 0 0 1 give full 1 99\n0 1 1 1 do feed 9"
        house = risen(BOOK, [1, 1], text)
        self.assertEqual((house.state(), house.shares(1)), ((-10, 4), [-104, 94]))
        self.assertEqual(paper_of(house), text)

    def test_what_is_handed_in_stays_and_is_not_needed_later(self):
        book = read_book(FARM)
        weights = [1, 1]
        before = copy.deepcopy((book, weights))
        house = risen(book, weights, FOLDED)
        house.do("rest", 0)
        self.assertEqual((book, weights), before)
        told = told_by(house)
        weights.clear()
        for part in book:
            part.clear()
        self.assertEqual(told_by(house), told)
        paper = paper_of(house)
        self.assertEqual(paper, FOLDED + "\n1 4 3 4 do rest 0")


class NoPapers(unittest.TestCase):
    def refused(self, line, text, **told):
        self.assertEqual(refusal(text, **told), ("NoPaper", line), text)

    def line_is_refused(self, line, rows, text=FOLDED):
        self.assertEqual(refusal(text)[0], "told")
        for row in rows:
            self.refused(line, with_line(text, line, row))

    def test_good_ones(self):
        for text in (NEW, FOLDED):
            house = refusal(text)
            self.assertEqual(house[0], "told")
            self.assertEqual(paper_of(house[1]), text)

    def test_a_line_that_lacks(self):
        lines = FOLDED.split("\n")
        for size in range(1, 7):
            self.refused(size, "\n".join(lines[:size]))
        for size in range(7, 11):
            self.assertEqual(refusal("\n".join(lines[:size]))[0], "told")

    def test_no_text(self):
        self.refused(0, "")
        self.refused(0, "\n")
        self.refused(0, "\n" + NEW)
        self.refused(0, " " + NEW)

    def test_a_line_too_many(self):
        self.refused(7, NEW + "\n")
        self.refused(7, NEW + "\n\n0 0 0 0 do feed 1")
        self.refused(7, NEW + "\nknows 0 0")
        self.refused(10, FOLDED + "\n")
        lines = NEW.split("\n")
        for line in range(7):
            twice = lines[:line + 1] + lines[line:]
            self.refused(7 if line >= 5 else line + 1, "\n".join(twice))

    def test_lines_left_out_or_exchanged(self):
        lines = FOLDED.split("\n")
        for line in range(5):
            self.refused(line, "\n".join(lines[:line] + lines[line + 1:]))
        for line in range(4):
            self.refused(line, "\n".join(lines[:line] + [lines[line + 1], lines[line]] + lines[line + 2:]))
        self.refused(6, "\n".join(lines[:6] + lines[7:]))

    def test_the_house(self):
        self.line_is_refused(0, [
            "house 2 of 2", "house -1 of 2", "house 0 of 3", "house 0 of 1", "house 0 of 0", "house 0 of -2",
            "house 00 of 2", "house -0 of 2", "house 0 of 02", "house 0 of", "house 0", "house", "house 0 of 2 ",
            "house 0 of 2 2", "house  0 of 2", "house 0  of 2", " house 0 of 2", "House 0 of 2", "house 0 off 2",
            "house a of 2", "house 0 of b", "house of 2", "house 0 2", "base 0 of 2", "house +0 of 2", "house 0 of 2\t",
        ])
        self.refused(0, NEW, weights=(1, 1, 1))
        self.refused(0, NEW, weights=(1,))

    def test_the_counts_that_are_folded(self):
        self.line_is_refused(1, [
            "base 3", "base 3 1 0", "base -3 1", "base 3 -1", "base 03 1", "base 3 -0", "base 3  1", "base 3 1 ", "base",
            " base 3 1", "bases 3 1", "Base 3 1", "3 1", "base three 1", "base 3,1", "base 3 1.0", "base", "state 3 1", "",
        ])

    def test_the_state(self):
        self.line_is_refused(2, [
            "state 6", "state 6 10 1", "state -06 10", "state 6 -0", "state 6 +10", "state  6 10", "state 6 10 ", "state",
            "stat 6 10", "state 6 - 10", "state 6 --10", "base 6 10", "6 10", "",
        ])
        self.assertEqual(refusal(with_line(NEW, 2, "state -6 -10"))[0], "told")

    def test_the_shares(self):
        self.line_is_refused(3, [
            "shares 3 3", "shares full 3", "shares full 3 3 3", "shares both 3 3", "shares rich 3 3", "shares Full 3 3",
            "shares full -0 3", "shares full 03 3", "shares full  3 3", "shares full 3 3 ", "share full 3 3", "full 3 3",
            "shares", "shares full", "shares full a b", "",
        ])
        self.line_is_refused(4, ["shares full 3 3", "shares rich 5", "shares both 1 1", "knows 0 0", ""])
        self.assertEqual(refusal(with_line(NEW, 3, "shares full -6 0"))[0], "told")

    def test_what_is_known(self):
        for line in (5, 6):
            self.line_is_refused(line, [
                "knows 3", "knows 3 0 0", "knows -3 0", "knows 3 -1", "knows 03 0", "knows 3 -0", "knows  3 0",
                "knows 3 0 ", "knows", "know 3 0", "knows a 0", "3 0", "shares rich 5 5", "",
            ])

    def test_a_row_as_it_is_written(self):
        self.line_is_refused(9, [
            "1 3 3 3 do rest", "1 3 3 3 do rest 0 0", "1 3 3 do rest 0", "1 3 3 3 3 do rest 0", "1 3 3 3 rest 0",
            "1 3 3 3 do rest -0", "1 3 3 3 do rest 00", "1 3 3 3 do rest a", "1 3 3 3 do rest +1", "1 3 3 3 do rest 0 ",
            " 1 3 3 3 do rest 0", "1  3 3 3 do rest 0", "1 3 3 3 do  rest 0", "1 3 3 3 Do rest 0", "1 3 3 3 do Rest 0",
            "01 3 3 3 do rest 0", "1 03 3 3 do rest 0", "1 3 03 3 do rest 0", "1 3 3 03 do rest 0", "1 3 3 3", "1 3", "1",
            "1 3 -0 3 do rest 0", "-1 3 3 3 do rest 0", "1 -3 3 3 do rest 0", "1 3 -3 3 do rest 0", "1 3 3 -3 do rest 0",
            "1 3 -1 3 do rest 0", "1 3 3 3 give full 0", "1 3 3 3 give full 0 1 1", "1 3 3 3 give full 00 1",
            "1 3 3 3 give full -0 1", "1 3 3 3 give full 0 01", "1 3 3 3 give full 0 a", "1 3 3 3 give full 0 +1",
            "1 3 3 3 give full 0 1 ", "1 3 3 3 take full 0 1", "1 3 3 3 give do 0 1", "a 3 3 3 do rest 0", "",
            "knows 3 0", "house 1 of 2", "1 3 3 3 do rest 0\t", "1 3 3 3 do rest 1.0", "1 3 3 3 do do rest 0",
            "1 3 3 3 do rest 0 do rest 0", "do rest 0", "1 3 3 3 do", "1 3 3 3 give", "1 3 3 3 give full",
        ])
        for row in ("1 3 3 3 do rest 0", "1 3 0 3 do rest -2", "1 3 3 3 give full 0 1", "0 3 3 0 do feed 9"):
            self.assertEqual(refusal(with_line(FOLDED, 9, row))[0], "told")

    def test_a_deed_or_number_that_the_book_does_not_have(self):
        self.line_is_refused(9, [
            "1 3 3 3 do steal 0", "1 3 3 3 do full 1", "1 3 3 3 do rest 3", "1 3 3 3 do rest -3", "1 3 3 3 do sell 0",
            "1 3 3 3 do sell 6", "1 3 3 3 do 0 1", "1 3 3 3 do  1",
        ])

    def test_a_house_that_is_not_there(self):
        self.line_is_refused(9, ["2 0 3 3 do rest 0", "2 3 3 3 do rest 0", "9 3 3 3 do rest 0", "-1 3 3 3 do rest 0"])

    def test_what_is_handed_on(self):
        self.line_is_refused(9, [
            "1 3 3 3 give full 1 1", "1 3 3 3 give full 2 1", "1 3 3 3 give full -1 1", "1 3 3 3 give full 0 0",
            "1 3 3 3 give full 0 -1", "1 3 3 3 give both 0 1", "1 3 3 3 give steal 0 1", "1 3 3 3 give rest 0 1",
            "0 3 3 3 give full 0 1", "0 3 3 3 give full 2 1", "1 3 3 3 give 1 0 1",
        ])
        self.assertEqual(refusal(with_line(FOLDED, 9, "0 3 3 3 give full 1 99"))[0], "told")

    def test_the_own_cause(self):
        self.line_is_refused(9, ["1 3 3 2 do rest 0", "1 3 3 0 do rest 0", "1 3 3 4 do rest 0", "0 3 2 3 do rest 0"])
        self.assertEqual(refusal(with_line(FOLDED, 9, "0 3 3 2 do rest 0"))[0], "told")

    def test_a_row_that_can_not_be_taken(self):
        self.line_is_refused(9, [
            "1 4 3 4 do rest 0", "1 2 3 2 do rest 0", "1 0 0 0 do rest 0", "1 3 4 3 do rest 0", "0 4 4 3 do rest 0",
            "0 2 2 0 do rest 0", "0 3 3 4 do rest 0", "1 1 3 1 do buy 1",
        ])
        self.line_is_refused(7, ["1 2 3 2 do rest -2", "1 0 3 0 do rest 0", "0 0 0 0 do rest 0"])
        self.refused(8, FOLDED.replace("1 1 3 1 do buy 1\n", "1 1 3 1 do buy 1\n1 1 3 1 do buy 1\n"))
        self.refused(7, FOLDED.replace("1 1 3 1 do buy 1\n", ""))

    def test_the_first_of_two_wrong_lines(self):
        lines = FOLDED.split("\n")
        for first in range(10):
            for second in range(first + 1, 10):
                self.refused(first, with_line(with_line(FOLDED, first, "wrong"), second, "wrong"))
            if first < 7:
                self.refused(first, "\n".join(lines[:first] + ["wrong"]))
        self.refused(7, with_line(with_line(FOLDED, 7, "1 2 3 2 do rest -2"), 8, "1 1 3 1 do buy 1"))

    def test_a_paper_of_another_book_or_of_more_houses(self):
        other = read_book("item a 3\nrule good: a >= 0\ndeed less n 0 3: a -n")
        self.refused(2, NEW, book=other)
        self.refused(0, paper_of(House(BOOK, [1, 1, 1], 0)))
        self.assertEqual(refusal(NEW, weights=(0, 9))[0], "told")


if __name__ == "__main__":
    unittest.main()
