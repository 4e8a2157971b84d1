"""Points 2, 3 and 8 to 11, and the interface of apartbook.books."""

import copy
import random
import unittest

from apartbook.books import (
    check_book, gain, is_free, least_gain, read_book, shown_book, spare,
)
from helper import outcome

TEXT = "\n".join([
    "item corn 10",
    "item gold -3",
    "rule full: corn >= 0",
    "rule poor: corn - gold >= 2*gold + 1",
    "deed sell k 1 5: corn -k, gold 3*k - 1",
    "deed rest k 0 0: -",
])
BOOK = (
    [("corn", 10), ("gold", -3)],
    [("full", (1, 0), 0), ("poor", (1, -3), -1)],
    [("sell", 1, 5, ((-1, 0), (3, -1))), ("rest", 0, 0, ((0, 0), (0, 0)))],
)
SHOWN = "\n".join([
    "item corn 10",
    "item gold -3",
    "rule full: corn >= 0",
    "rule poor: corn - 3*gold - 1 >= 0",
    "deed sell n 1 5: corn -n, gold 3*n - 1",
    "deed rest n 0 0: -",
])
FORTY = [x + y for x in "abcd" for y in "efghijklmn"]


def made(items=None, rules=None, deeds=None):
    """A book of one item, one rule, one deed, but for what is handed in."""
    return (
        [("a", 5)] if items is None else items,
        [("r", (1,), 0)] if rules is None else rules,
        [("d", 0, 1, ((1, 0),))] if deeds is None else deeds,
    )


def named(names, *rest):
    return [(name,) + rest for name in names]


NO_BOOKS = {
    "no items": ([], [("r", (), 0)], [("d", 0, 1, ())]),
    "five items": (
        named("abcde", 1), [("r", (0,) * 5, 0)], [("d", 0, 1, ((0, 0),) * 5)],
    ),
    "forty items": (
        [(name, 1) for name in FORTY],
        [("r", (0,) * 40, 0)],
        [("d", 0, 1, ((0, 0),) * 40)],
    ),
    "no rules": made(rules=[]),
    "six rules": made(rules=named("abcdef", (1,), 0)),
    "no deeds": made(deeds=[]),
    "seven deeds": made(deeds=named("abcdefg", 0, 1, ((1, 0),))),
    "item twice": ([("a", 1), ("a", 1)], [("r", (1, 1), 0)], [("d", 0, 1, ((0, 0), (0, 0)))]),
    "rule twice": made(rules=named("rr", (1,), 0)),
    "deed twice": made(deeds=named("dd", 0, 1, ((1, 0),))),
    "no coefficients": made(rules=[("r", (), 0)]),
    "two coefficients": made(rules=[("r", (1, 1), 0)]),
    "second rule's coefficients": made(rules=[("r", (1,), 0), ("s", (1, 1), 0)]),
    "no changes": made(deeds=[("d", 0, 1, ())]),
    "two changes": made(deeds=[("d", 0, 1, ((0, 0), (0, 0)))]),
    "forty changes": made(deeds=[("d", 0, 1, ((0, 0),) * 40)]),
    "second deed's changes": made(deeds=[("d", 0, 1, ((0, 0),)), ("e", 0, 1, ())]),
    "low above high": made(deeds=[("d", 1, 0, ((1, 0),))]),
    "low above high below nought": made(deeds=[("d", -4, -5, ((1, 0),))]),
    "second deed's low": made(deeds=[("d", 0, 0, ((1, 0),)), ("e", 1, 0, ((1, 0),))]),
}
NO_NAMES = (
    "", "abcdefghijk", "A", "aB", "a1", "1", "a b", " a", "a ", "-", "a_b",
    "\u00e9", "a\u00df", "a\n", "{", "`", "a" * 20,
)


class CheckBook(unittest.TestCase):
    def test_a_book(self):
        self.assertIsNone(check_book(BOOK))
        self.assertIsNone(check_book(made()))

    def test_the_bounds_may_be_reached(self):
        book = (
            named("abcd", 1), named("abcde", (1,) * 4, -4), named("abcdef", -1, -1, ((0, 0),) * 4),
        )
        self.assertIsNone(check_book(book))

    def test_a_name_may_stand_in_two_lists(self):
        self.assertIsNone(check_book(made([("x", 1)], [("x", (1,), 0)], [("x", 0, 0, ((1, 1),))])))

    def test_names_of_ten_letters(self):
        long = "abcdefghiz"
        self.assertIsNone(check_book(made([(long, 1)], [(long, (1,), 0)], [(long, 0, 0, ((1, 1),))])))

    def test_numbers_beyond_the_bounds_are_not_refused(self):
        self.assertIsNone(check_book(made([("a", 10 ** 40)], [("r", (10 ** 40,), -(10 ** 80))])))

    def test_each_way_to_be_no_book(self):
        for way, book in NO_BOOKS.items():
            self.assertEqual(outcome(check_book, book), ("NoBook",), way)

    def test_names_that_are_none(self):
        for name in NO_NAMES:
            for book in (
                made(items=[(name, 5)]),
                made(rules=[(name, (1,), 0)]),
                made(rules=[("r", (1,), 0), (name, (1,), 0)]),
                made(deeds=[(name, 0, 1, ((1, 0),))]),
            ):
                self.assertEqual(outcome(check_book, book), ("NoBook",), name)

    def test_no_book_goes_ahead_of_broken(self):
        for way, book in NO_BOOKS.items():
            broken = (book[0], [rule[:2] + (-1000,) for rule in book[1]], book[2])
            self.assertEqual(outcome(check_book, broken), ("NoBook",), way)
        for name in NO_NAMES:
            self.assertEqual(outcome(check_book, made(rules=[("r", (1,), -9), (name, (1,), 0)])), ("NoBook",))

    def test_the_first_broken_rule(self):
        rules = [("good", (1,), -5), ("bad", (1,), -6), ("worse", (1,), -7)]
        self.assertEqual(outcome(check_book, made(rules=rules)), ("Broken", "bad"))
        self.assertEqual(outcome(check_book, made(rules=rules[::-1])), ("Broken", "worse"))
        self.assertEqual(outcome(check_book, made(rules=rules[:1])), ("told", None))

    def test_a_rule_that_breaks_by_its_rest_alone(self):
        self.assertEqual(outcome(check_book, made(rules=[("r", (0,), -1)])), ("Broken", "r"))
        self.assertEqual(outcome(check_book, made(rules=[("r", (0,), 0)])), ("told", None))

    def test_what_was_handed_in_stays(self):
        for book in [BOOK, made(rules=[("r", (1,), -9)])] + list(NO_BOOKS.values()):
            before = copy.deepcopy(book)
            outcome(check_book, book)
            self.assertEqual(book, before)


class ReadBook(unittest.TestCase):
    def told(self, text, book):
        self.assertEqual(outcome(read_book, text), ("told", book), text)

    def wrong(self, text, line):
        self.assertEqual(outcome(read_book, text), ("NoLine", line), text)

    def with_line(self, line, row):
        rows = TEXT.split("\n")
        rows[line] = row
        return "\n".join(rows)

    def wrong_line(self, line, row):
        self.wrong(self.with_line(line, row), line)

    def rule(self, row):
        return read_book(self.with_line(3, row))[1][1]

    def deed(self, row):
        return read_book(self.with_line(4, row))[2][0]

    def test_a_book(self):
        self.told(TEXT, BOOK)

    def test_the_kinds_told(self):
        book = read_book(TEXT)
        self.assertIsInstance(book, tuple)
        for parts in book:
            self.assertIsInstance(parts, list)
            for part in parts:
                self.assertIsInstance(part, tuple)
        self.assertIsInstance(book[1][0][1], tuple)
        self.assertIsInstance(book[2][0][3], tuple)
        self.assertIsInstance(book[2][0][3][0], tuple)

    def test_what_is_told_is_the_askers_own(self):
        first = read_book(TEXT)
        first[0].clear()
        first[1].append("x")
        first[2][0] = None
        self.told(TEXT, BOOK)

    def test_numbers(self):
        for word, number in (("0", 0), ("7", 7), ("-7", -7), ("120", 120), ("-10", -10), ("9" * 30, 10 ** 30 - 1)):
            book = read_book(self.with_line(1, "item gold 0") + "\ndeed z n -" + "9" * 30 + " " + word + ": -")
            self.assertEqual(book[2][2], ("z", -(10 ** 30) + 1, number, ((0, 0), (0, 0))))
            text = "item a " + word + "\nrule r: 0 >= 0\ndeed d n 0 0: -"
            self.assertEqual(read_book(text)[0], [("a", number)])

    def test_words_that_are_no_numbers(self):
        for word in ("-0", "00", "01", "-01", "--1", "+1", "", "-", "a", "1a", "1.", "- 1", "(1)", "1+1", "\u00b2"):
            self.wrong_line(0, "item corn " + word)
            self.wrong_line(4, "deed sell k " + word + " 5: -")
            self.wrong_line(4, "deed sell k 1 " + word + ": -")

    def test_words_that_are_no_names(self):
        for word in NO_NAMES:
            self.wrong_line(1, "item " + word + " -3")
            self.wrong_line(2, "rule " + word + ": corn >= 0")
            self.wrong_line(4, "deed " + word + " k 1 5: corn -1")
            self.wrong_line(4, "deed sell " + word + " 1 5: corn -1")

    def test_names_of_ten_letters(self):
        long = "abcdefghij"
        text = f"item {long} 1\nrule {long}: {long} >= 0\ndeed {long} {long} 0 1: {long} {long}"
        self.told(text, ([(long, 1)], [(long, (1,), 0)], [(long, 0, 1, ((1, 0),))]))

    def test_the_words_of_lines_as_names(self):
        self.told(
            "item item 1\nrule rule: item >= 0\ndeed deed deed 0 1: item deed",
            ([("item", 1)], [("rule", (1,), 0)], [("deed", 0, 1, ((1, 0),))]),
        )

    def test_blanks_in_items(self):
        for row in ("item corn  10", "item  corn 10", " item corn 10", "item corn 10 ", "itemcorn 10", "item corn10"):
            self.wrong_line(0, row)

    def test_items_with_too_few_or_too_many_words(self):
        for row in ("item", "item ", "item corn", "item corn ", "item corn 10 1", "item 10", "item corn: 10"):
            self.wrong_line(0, row)

    def test_rules(self):
        self.assertEqual(self.rule("rule x: corn >= gold"), ("x", (1, -1), 0))
        self.assertEqual(self.rule("rule x: 3*(corn - 1) - gold >= 2*corn + 4"), ("x", (1, -1), -7))
        self.assertEqual(self.rule("rule x: 0 >= 0"), ("x", (0, 0), 0))
        self.assertEqual(self.rule("rule x: 3 >= -corn"), ("x", (1, 0), 3))

    def test_free_blanks_in_rules(self):
        for row in (
            "rule x: corn>=gold", "rule x:    corn>=gold", "rule x: corn   >=gold",
            "rule x: corn>=   gold", "rule x: corn>=gold   ", "rule x:   ( corn )  >=  gold  ",
        ):
            self.assertEqual(self.rule(row), ("x", (1, -1), 0), row)

    def test_other_blanks_in_rules(self):
        for row in (
            "rule x:corn >= 0", "rule x : corn >= 0", "rule  x: corn >= 0", " rule x: corn >= 0",
            "rule x: corn > = 0", "rulex: corn >= 0", "rule x:\tcorn >= 0", "rule x: co rn >= 0",
        ):
            self.wrong_line(2, row)

    def test_rules_that_are_none(self):
        for row in (
            "rule", "rule x", "rule x:", "rule x: ", "rule x: corn", "rule x: corn >=", "rule x: >= 0",
            "rule x: corn > 0", "rule x: corn = 0", "rule x: corn <= 0", "rule : corn >= 0",
            "rule x:: corn >= 0", "rule x corn >= 0", "rule x: corn: corn >= 0", "rule x y: corn >= 0",
        ):
            self.wrong_line(2, row)

    def test_a_rule_is_cut_at_its_first_sign(self):
        for row in ("rule x: 1 >= 0 >= 0", "rule x: corn >== 0", "rule x: corn >=>= 0", "rule x: >= 1 >= 0"):
            self.wrong_line(2, row)

    def test_sums_that_are_refused_in_rules(self):
        for side in ("corn +", "x", "corn*gold", "00", "n", "2corn", "abcdefghijk"):
            self.wrong_line(2, "rule x: " + side + " >= 0")
            self.wrong_line(2, "rule x: 0 >= " + side)

    def test_deeds(self):
        self.assertEqual(self.deed("deed d n 1 5: corn n"), ("d", 1, 5, ((1, 0), (0, 0))))
        self.assertEqual(self.deed("deed d n 1 5: gold -2*(n + 1)"), ("d", 1, 5, ((0, 0), (-2, -2))))
        self.assertEqual(self.deed("deed d n -5 -1: gold 4, corn n - 1"), ("d", -5, -1, ((1, -1), (0, 4))))
        self.assertEqual(self.deed("deed d n 3 3: -"), ("d", 3, 3, ((0, 0), (0, 0))))

    def test_the_number_may_bear_an_items_name(self):
        self.assertEqual(self.deed("deed d gold 1 5: corn gold, gold 1"), ("d", 1, 5, ((1, 0), (0, 1))))

    def test_a_change_of_nought(self):
        self.assertEqual(self.deed("deed d n 1 5: corn 0"), ("d", 1, 5, ((0, 0), (0, 0))))
        self.assertEqual(self.deed("deed d n 1 5: corn n - n, gold 1"), ("d", 1, 5, ((0, 0), (0, 1))))

    def test_free_blanks_in_deeds(self):
        for row in (
            "deed d n 1 5: corn -n, gold 2", "deed d n 1 5: corn   -n, gold   2", "deed d n 1 5: corn -n   , gold 2",
            "deed d n 1 5: corn -n, gold 2   ", "deed d n 1 5: corn  -  n , gold  ( 2 ) ",
        ):
            self.assertEqual(self.deed(row), ("d", 1, 5, ((-1, 0), (0, 2))), row)

    def test_other_blanks_in_deeds(self):
        for row in (
            "deed d n 1 5:  corn 1", "deed d n 1 5:corn 1", "deed d n 1 5 : corn 1", "deed d n 1  5: corn 1",
            "deed d n  1 5: corn 1", "deed d  n 1 5: corn 1", "deed  d n 1 5: corn 1", " deed d n 1 5: corn 1",
            "deed d n 1 5: corn 1,gold 1", "deed d n 1 5: corn 1,  gold 1", "deed d n 1 5: corn 1 ,gold 1",
            "deed d n 1 5: corn-n", "deed d n 1 5: corn(n)", "deed d n 1 5:  -", "deed d n 1 5: - ",
            "deed d n 1 5:-", "deed d n 1 5 :-",
        ):
            self.wrong_line(4, row)

    def test_deeds_that_are_none(self):
        for row in (
            "deed", "deed d", "deed d n 1 5", "deed d n 1 5:", "deed d n 1 5: ", "deed d n 1: corn 1",
            "deed d 1 5: corn 1", "deed n 1 5: corn 1", "deed d n m 1 5: corn 1", "deed d n 1 5 6: corn 1",
            "deed d n 1 5: corn", "deed d n 1 5: corn ", "deed d n 1 5: 1", "deed d n 1 5: corn 1, ",
            "deed d n 1 5: corn 1,", "deed d n 1 5: , corn 1", "deed d n 1 5: corn 1,, gold 1",
            "deed d n 1 5: corn 1, -", "deed d n 1 5: -, corn 1", "deed d n 1 5: --", "deed d n 1 5: 0",
            "deed d n 1 5: corn 1; gold 1", "deed d n 1 5: corn 1 gold 1", "deed d n 1 5: corn: 1",
        ):
            self.wrong_line(4, row)

    def test_items_named_twice_or_not_in_the_book(self):
        self.wrong_line(4, "deed d n 1 5: corn 1, corn 1")
        self.wrong_line(4, "deed d n 1 5: corn 0, gold 1, corn 0")
        self.wrong_line(4, "deed d n 1 5: wood 1")
        self.wrong_line(4, "deed d n 1 5: corn 1, wood 0")
        self.wrong_line(4, "deed d n 1 5: n 1")

    def test_sums_that_are_refused_in_deeds(self):
        for change in ("n +", "corn", "k", "n*n", "00", "2n", "m"):
            self.wrong_line(4, "deed d n 1 5: corn " + change)
            self.wrong_line(4, "deed d n 1 5: corn 1, gold " + change)

    def test_a_name_that_an_earlier_line_of_its_kind_has(self):
        self.wrong_line(1, "item corn 5")
        self.wrong_line(3, "rule full: corn >= 1")
        self.wrong_line(5, "deed sell k 0 0: -")

    def test_a_name_that_an_earlier_line_of_another_kind_has(self):
        self.told(
            "item x 1\nrule x: x >= 0\ndeed x x 0 1: x x",
            ([("x", 1)], [("x", (1,), 0)], [("x", 0, 1, ((1, 0),))]),
        )

    def test_lines_out_of_their_order(self):
        self.wrong("item a 1\nrule r: a >= 0\nitem b 1\ndeed d n 0 1: a n", 2)
        self.wrong("item a 1\nrule r: a >= 0\ndeed d n 0 1: a n\nrule s: a >= 0", 3)
        self.wrong("item a 1\nrule r: a >= 0\ndeed d n 0 1: a n\nitem b 1", 3)
        self.wrong("item a 1\ndeed d n 0 1: a n\nrule r: a >= 0", 2)
        self.wrong("rule r: 1 >= 0\nitem a 1\ndeed d n 0 1: a n", 1)

    def test_a_rule_knows_the_items_ahead_of_it_alone(self):
        self.wrong("rule r: a >= 0\nitem a 1\ndeed d n 0 1: a n", 0)

    def test_empty_lines_and_ends(self):
        self.wrong("", 0)
        self.wrong("\n", 0)
        self.wrong(" ", 0)
        self.wrong("\n" + TEXT, 0)
        self.wrong(TEXT + "\n", 6)
        self.wrong(TEXT.replace("\nrule full", "\n\nrule full"), 2)
        self.wrong(TEXT.replace("\n", "\r\n"), 0)

    def test_lines_of_no_kind(self):
        for row in ("corn 10", "items corn 10", "Item corn 10", "it corn 10", "# corn", "-"):
            self.wrong_line(0, row)
            self.wrong_line(3, row)

    def test_the_first_wrong_line(self):
        self.wrong("item a 1\nrule r: x >= 0\ndeed d n 0 1: x n", 1)
        self.wrong("item a 00\nrule r: x >= 0\ndeed d n 0 1: x n", 0)
        self.wrong("item a 1\nrule r: a >= 0\ndeed d n 0 1: x n", 2)

    def test_no_line_goes_ahead_of_no_book_and_broken(self):
        self.wrong("item a 1\nrule r: a >= 2\ndeed d n 1 0: a n\ndeed e n 0 1: a", 3)
        self.wrong("item a -1\nrule r: a >= 0\ndeed d n 0 1: a n\n", 3)

    def test_no_book_of_what_was_read(self):
        for text in (
            "item a 1",
            "item a 1\nrule r: a >= 0",
            "item a 1\ndeed d n 0 1: a n",
            "rule r: 1 >= 0",
            "rule r: 1 >= 0\ndeed d n 0 1: -",
            "deed d n 0 1: -",
            "item a 1\nrule r: a >= 0\ndeed d n 1 0: a n",
            "item a 1\nrule r: a >= 2\ndeed d n 1 0: a n",
            "\n".join(["item " + x + " 1" for x in "abcde"] + ["rule r: a >= 0", "deed d n 0 1: a n"]),
            "\n".join(["item a 1"] + ["rule " + x + ": a >= 0" for x in "abcdef"] + ["deed d n 0 1: a n"]),
            "\n".join(["item a 1", "rule r: a >= 0"] + ["deed " + x + " n 0 1: a n" for x in "abcdefg"]),
        ):
            self.assertEqual(outcome(read_book, text), ("NoBook",), text)

    def test_broken_of_what_was_read(self):
        text = "item a 1\nrule r: a >= 1\nrule s: a >= 2\nrule t: a >= 3\ndeed d n 0 1: a n"
        self.assertEqual(outcome(read_book, text), ("Broken", "s"))


class ShownBook(unittest.TestCase):
    def test_a_book(self):
        self.assertEqual(shown_book(BOOK), SHOWN)

    def test_the_form_of_noughts(self):
        self.assertEqual(
            shown_book(made([("a", 0)], [("r", (0,), 0)], [("d", -2, 2, ((0, 0),))])),
            "item a 0\nrule r: 0 >= 0\ndeed d n -2 2: -",
        )

    def test_only_changes_that_are_not_nought(self):
        book = (
            [("z", 0), ("b", 0), ("c", 0), ("a", 0)],
            [("r", (-1, 0, 0, 2), 5)],
            [("d", 0, 1, ((0, -1), (0, 0), (-1, 0), (1, 0)))],
        )
        self.assertEqual(
            shown_book(book),
            "item z 0\nitem b 0\nitem c 0\nitem a 0\nrule r: -z + 2*a + 5 >= 0\ndeed d n 0 1: z -1, c -n, a n",
        )

    def test_a_book_is_shown_and_read_again_to_itself(self):
        chance = random.Random(5)
        for _ in range(500):
            book = self.by_chance(chance)
            before = copy.deepcopy(book)
            self.assertEqual(read_book(shown_book(book)), book)
            self.assertEqual(book, before)

    def by_chance(self, chance):
        size = chance.choice((1, 2, 10, 10 ** 30 - 1))

        def number():
            return chance.randint(-size, size)

        def names(most):
            return chance.sample(["a", "n", "item", "rule", "abcdefghij", "z"], chance.randint(1, most))

        items = [(name, number()) for name in names(4)]
        rules = []
        for name in names(5):
            coefficients = tuple(number() for _ in items)
            at_starts = sum(x * item[1] for x, item in zip(coefficients, items))
            rules.append((name, coefficients, max(number(), -at_starts)))
        deeds = []
        for name in names(6):
            changes = tuple(chance.choice(((0, 0), (number(), 0), (number(), number()))) for _ in items)
            deeds.append((name,) + tuple(sorted((number(), number()))) + (changes,))
        return (items, rules, deeds)

    def test_numbers_of_many_figures(self):
        most = 10 ** 9000 - 1
        book = made([("a", most)], [("r", (most,), -most)], [("d", -most, most, ((-most, most),))])
        self.assertEqual(read_book(shown_book(book)), book)
        self.assertEqual(shown_book(book).count("9"), 9000 * 7)


class Gains(unittest.TestCase):
    BOOK = (
        [("a", 10), ("b", 10)],
        [("r", (2, -1), 4), ("s", (-3, 0), 100), ("t", (0, 0), 0)],
        [
            ("d", -2, 5, ((1, 3), (4, -1))),
            ("e", 3, 3, ((-1, 0), (0, 7))),
            ("f", -5, -1, ((0, 2), (0, 4))),
        ],
    )

    def test_gain(self):
        self.assertEqual(
            [[gain(self.BOOK, rule, deed) for deed in range(3)] for rule in range(3)],
            [[(-2, 7), (-2, -7), (0, 0)], [(-3, -9), (3, 0), (0, -6)], [(0, 0), (0, 0), (0, 0)]],
        )
        self.assertIsInstance(gain(self.BOOK, 0, 0), tuple)

    def test_least_gain(self):
        self.assertEqual(
            [[least_gain(self.BOOK, rule, deed) for deed in range(3)] for rule in range(3)],
            [[-3, -13, 0], [-24, 9, -6], [0, 0, 0]],
        )

    def test_free(self):
        told = [[is_free(self.BOOK, rule, deed) for deed in range(3)] for rule in range(3)]
        self.assertEqual(told, [[False, False, True], [False, True, False], [True, True, True]])
        self.assertIs(told[0][0], False)
        self.assertIs(told[0][2], True)

    def test_a_least_gain_just_at_and_just_below_nought(self):
        for low, free in ((-3, True), (-4, False)):
            book = made(deeds=[("d", low, 9, ((1, 3),))])
            self.assertEqual(is_free(book, 0, 0), free)
        for high, free in ((3, True), (4, False)):
            book = made(deeds=[("d", -9, high, ((-1, 3),))])
            self.assertEqual(is_free(book, 0, 0), free)

    def test_by_all_numbers_of_a_deed(self):
        chance = random.Random(3)
        for _ in range(500):
            ends = sorted(chance.randint(-6, 6) for _ in range(2))
            changes = tuple((chance.randint(-3, 3), chance.randint(-9, 9)) for _ in range(2))
            rule = ("r", tuple(chance.randint(-3, 3) for _ in range(2)), chance.randint(-5, 5))
            book = ([("a", 3), ("b", -2)], [rule], [("d", ends[0], ends[1], changes)])
            before = spare(book, 0, (3, -2))
            gains = []
            for n in range(ends[0], ends[1] + 1):
                after = spare(book, 0, tuple(x + a * n + b for x, (a, b) in zip((3, -2), changes)))
                told = gain(book, 0, 0)
                self.assertEqual(told[0] * n + told[1], after - before)
                gains.append(after - before)
            self.assertEqual(least_gain(book, 0, 0), min(gains))
            self.assertEqual(is_free(book, 0, 0), min(gains) >= 0)

    def test_spare(self):
        self.assertEqual(spare(self.BOOK, 0, (10, 10)), 14)
        self.assertEqual(spare(self.BOOK, 1, (40, 1)), -20)
        self.assertEqual(spare(self.BOOK, 2, (7, 7)), 0)

    def test_spare_of_a_book_whose_starts_break_its_rules(self):
        book = made([("a", -5)], [("r", (2,), -1)])
        self.assertEqual(spare(book, 0, (-5,)), -11)
        self.assertEqual(spare(book, 0, (8,)), 15)

    def test_what_was_handed_in_stays(self):
        before = copy.deepcopy(self.BOOK)
        for rule in range(3):
            spare(self.BOOK, rule, (1, 2))
            for deed in range(3):
                gain(self.BOOK, rule, deed)
                least_gain(self.BOOK, rule, deed)
                is_free(self.BOOK, rule, deed)
        shown_book(self.BOOK)
        self.assertEqual(self.BOOK, before)


if __name__ == "__main__":
    unittest.main()
