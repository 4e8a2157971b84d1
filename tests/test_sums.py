"""Points 2 to 7, and the interface of apartbook.sums."""

import random
import unittest

from apartbook.sums import read_sum, shown_sum, value_of
from helper import all_texts, judged, outcome

NAMES = ["a", "b", "c"]
THIRTY = "123456789012345678901234567890"


def read(text, names=NAMES):
    return outcome(read_sum, names, text)


class Case(unittest.TestCase):
    def told(self, text, form, names=NAMES):
        self.assertEqual(read(text, names), ("told", form), text)

    def refused(self, text, refusal, names=NAMES):
        self.assertEqual(read(text, names), refusal, text)


class WhatASumIs(Case):
    def test_numbers(self):
        self.told("0", ((0, 0, 0), 0))
        self.told("7", ((0, 0, 0), 7))
        self.told("100", ((0, 0, 0), 100))
        self.told("10203", ((0, 0, 0), 10203))

    def test_a_first_nought_stands_alone(self):
        self.refused("00", ("NoText", 1))
        self.refused("01", ("NoText", 1))
        self.refused("a + 007", ("NoText", 5))
        self.refused("-00", ("NoText", 2))

    def test_numbers_of_thirty_figures_and_more(self):
        self.told(THIRTY, ((0, 0, 0), 123456789012345678901234567890))
        self.told("-" + THIRTY + "*b", ((0, -123456789012345678901234567890, 0), 0))
        for figures in (17, 18, 19, 35, 36, 37, 54, 60, 61):
            self.told("9" * figures, ((0, 0, 0), 10 ** figures - 1))
            self.told("1" + "0" * figures, ((0, 0, 0), 10 ** figures))

    def test_names_of_ten_letters_and_of_eleven(self):
        self.told("abcdefghij", ((1,), 0), ["abcdefghij"])
        self.told("z", ((1,), 0), ["z"])
        self.refused("abcdefghijk", ("NoText", 10), ["abcdefghij", "abcdefghijk"])
        self.refused("1 + abcdefghijk", ("NoText", 14))
        self.refused("abcdefghij k", ("NoText", 11))

    def test_signs_that_no_sum_has(self):
        for sign in "ABZ_./,:;<=>[]{}'\"!?#$&@^|~`%\t\n":
            self.refused(sign, ("NoText", 0))
            self.refused("a" + sign, ("NoText", 1))
            self.refused("a + 1" + sign + "2", ("NoText", 5))

    def test_signs_beside_letters_and_figures_in_order(self):
        for sign in ("`", "{", "/", ":", "\u00e9", "\u00b2", "\u0663"):
            self.refused(sign, ("NoText", 0))
            self.refused("b" + sign, ("NoText", 1))
            self.refused("1" + sign, ("NoText", 1))

    def test_blanks_where_they_may_stand(self):
        self.told("  -  a  +  2  *  (  b  -  c  )  -  10  ", ((-1, 2, -2), -10))
        self.told("-a+2*(b-c)-10", ((-1, 2, -2), -10))
        self.told(" ( ( 4 ) ) ", ((0, 0, 0), 4))

    def test_blanks_where_they_may_not_stand(self):
        self.refused("1 2", ("NoText", 2))
        self.refused("a b", ("NoText", 2))
        self.refused("a 1", ("NoText", 2))
        self.refused("1   a", ("NoText", 4))
        self.refused("0 0", ("NoText", 2))

    def test_numbers_and_names_side_by_side(self):
        self.refused("2a", ("NoText", 1))
        self.refused("a2", ("NoText", 1))
        self.refused("0a", ("NoText", 1))
        self.refused("2(a)", ("NoText", 1))
        self.refused("(a)2", ("NoText", 3))
        self.refused("(a)(b)", ("NoText", 3))

    def test_a_minus_at_a_sums_beginning_and_one_within(self):
        self.told("-a", ((-1, 0, 0), 0))
        self.told("-0", ((0, 0, 0), 0))
        self.told("b-a", ((-1, 1, 0), 0))
        self.told("-a*2+3", ((-2, 0, 0), 3))
        self.told("-2*a-3", ((-2, 0, 0), -3))
        self.told("-(a+1)+b", ((-1, 1, 0), -1))
        self.told("2*(-a)", ((-2, 0, 0), 0))
        self.told("b-(-a-1)", ((1, 1, 0), 1))
        self.told("-(-(-a))", ((-1, 0, 0), 0))

    def test_signs_that_may_not_follow_one_another(self):
        self.refused("--a", ("NoText", 1))
        self.refused("- - a", ("NoText", 2))
        self.refused("+a", ("NoText", 0))
        self.refused("*a", ("NoText", 0))
        self.refused("a+-b", ("NoText", 2))
        self.refused("a*-b", ("NoText", 2))
        self.refused("a++b", ("NoText", 2))
        self.refused("2**3", ("NoText", 2))
        self.refused("(+a)", ("NoText", 1))

    def test_times_goes_ahead_of_plus_and_minus(self):
        self.told("1+2*3", ((0, 0, 0), 7))
        self.told("2*3+1", ((0, 0, 0), 7))
        self.told("10-2*3-1", ((0, 0, 0), 3))
        self.told("a-2*a*3+b", ((-5, 1, 0), 0))
        self.told("10-3-2", ((0, 0, 0), 5))
        self.told("10-(3-2)", ((0, 0, 0), 9))

    def test_brackets_ten_deep_and_deeper(self):
        self.told("2*(1+" * 10 + "a" + ")" * 10, ((1024, 0, 0), 2046))
        self.told("(" * 10 + "a" + ")" * 10, ((1, 0, 0), 0))
        self.told("-(" * 11 + "a" + ")" * 11, ((-1, 0, 0), 0))
        self.told("(" * 1500 + "a" + ")" * 1500, ((1, 0, 0), 0))
        self.refused("(" * 10 + "a" + ")" * 11, ("NoText", 21))
        self.refused("(" * 10 + "a" + ")" * 9, ("NoText", 20))

    def test_more_than_two_hundred_names_and_numbers(self):
        self.told("+".join(["a", "1"] * 150), ((150, 0, 0), 150))


class TheForm(Case):
    def test_it_is_a_tuple_of_a_tuple_and_a_number(self):
        form = read_sum(NAMES, "a + 1")
        self.assertIsInstance(form, tuple)
        self.assertIsInstance(form[0], tuple)
        self.assertIsInstance(form[1], int)
        self.assertEqual(len(form), 2)

    def test_coefficients_go_in_the_order_of_the_names(self):
        self.told("3*a + 2*b + c", ((1, 2, 3), 0), ["c", "b", "a"])
        self.told("c + 2*b + 3*a", ((2, 3, 1), 0), ["b", "a", "c"])
        self.told("zz - a", ((1, -1, 0), 0), ["zz", "a", "z"])

    def test_a_name_that_begins_like_another(self):
        self.told("ab - a", ((-1, 1), 0), ["a", "ab"])

    def test_no_names(self):
        self.told("2*3", ((), 6), [])
        self.refused("a", ("NoName", "a", 0), [])

    def test_either_factor_may_be_the_one_without_names(self):
        self.told("3*(a+2)", ((3, 0, 0), 6))
        self.told("(a+2)*3", ((3, 0, 0), 6))
        self.told("2*(a+1)*3", ((6, 0, 0), 6))
        self.told("2*3*4", ((0, 0, 0), 24))
        self.told("0*(a+2)", ((0, 0, 0), 0))

    def test_names_that_cancel_may_be_multiplied(self):
        self.told("(a-a)*b", ((0, 0, 0), 0))
        self.told("b*(a-a+3)", ((0, 3, 0), 0))
        self.told("(a-a+2)*(b-b+3)", ((0, 0, 0), 6))
        self.told("0*a*b", ((0, 0, 0), 0))
        self.told("(2*a+b-a-(a+b)+5)*c", ((0, 0, 5), 0))
        self.told("(a-a)*(b*0+1)*c", ((0, 0, 0), 0))

    def test_value_of(self):
        self.assertEqual(value_of(((2, -3), 7), (10, 4)), 15)
        self.assertEqual(value_of(((0, 0), -1), (5, 6)), -1)
        self.assertEqual(value_of(((), 9), ()), 9)
        self.assertEqual(value_of(((10 ** 30,), -1), (-(10 ** 30),)), -(10 ** 60) - 1)


class Refusals(Case):
    def test_a_text_that_only_lacks_something(self):
        for text in ("", " ", "   ", "-", "- ", "(", "a+", "a + ", "a*", "(a", "(a ", "((a)", "2*(a-", "(-"):
            self.refused(text, ("NoText", len(text)))

    def test_a_sign_that_cannot_stand_there(self):
        self.refused(")", ("NoText", 0))
        self.refused("()", ("NoText", 1))
        self.refused("( )", ("NoText", 2))
        self.refused("a)", ("NoText", 1))
        self.refused("(a))", ("NoText", 3))
        self.refused("(a+)", ("NoText", 3))
        self.refused("a + * b", ("NoText", 4))
        self.refused("a   (", ("NoText", 4))

    def test_no_text_goes_ahead_of_no_name(self):
        self.refused("x + ", ("NoText", 4))
        self.refused("x + 00", ("NoText", 5))

    def test_no_text_goes_ahead_of_not_plain(self):
        self.refused("a*b)", ("NoText", 3))

    def test_no_name_goes_ahead_of_not_plain(self):
        self.refused("a*b + x", ("NoName", "x", 6))

    def test_the_first_name_that_lacks(self):
        self.refused("a + yy*2 - x", ("NoName", "yy", 4))
        self.refused("(b - (x + y))", ("NoName", "x", 6))
        self.refused("0*x", ("NoName", "x", 2))
        self.refused("ab", ("NoName", "ab", 0))
        self.refused("a - abcdefghij", ("NoName", "abcdefghij", 4))

    def test_not_plain(self):
        self.refused("a*b", ("NotPlain", 1))
        self.refused("a * a", ("NotPlain", 2))
        self.refused("(a+1)*(b-1)", ("NotPlain", 5))
        self.refused("2*a*b", ("NotPlain", 3))
        self.refused("1 - a*2*b", ("NotPlain", 7))

    def test_the_first_star_in_the_order_of_reckoning(self):
        self.refused("a*b*c", ("NotPlain", 1))
        self.refused("a*(b*c)", ("NotPlain", 4))
        self.refused("(a*b)*c", ("NotPlain", 2))
        self.refused("(a*b)*(b*c)", ("NotPlain", 2))
        self.refused("(a+1)*(2*(b*c))", ("NotPlain", 11))
        self.refused("a*b*(b*c)", ("NotPlain", 1))
        self.refused("a*2*(b*c)", ("NotPlain", 6))
        self.refused("a*(2*b) + b*c", ("NotPlain", 1))
        self.refused("2*(a+(1+c*c))*b*b", ("NotPlain", 9))

    def test_a_product_is_no_less_refused_for_being_taken_away_again(self):
        self.refused("a*b - a*b", ("NotPlain", 1))
        self.refused("0*(a*b)", ("NotPlain", 4))


class Showing(Case):
    def shown(self, form, text, names=("a", "b", "c")):
        self.assertEqual(shown_sum(list(names), form), text)

    def test_the_form_of_noughts(self):
        self.shown(((0, 0, 0), 0), "0")
        self.shown(((), 0), "0", ())

    def test_rests_alone(self):
        self.shown(((0, 0, 0), 12), "12")
        self.shown(((0, 0, 0), -1), "-1")

    def test_ones_and_minus_ones(self):
        self.shown(((1, 0, 0), 0), "a")
        self.shown(((-1, 0, 0), 0), "-a")
        self.shown(((1, 1, 1), 1), "a + b + c + 1")
        self.shown(((-1, -1, -1), -1), "-a - b - c - 1")
        self.shown(((0, 1, -1), 0), "b - c")

    def test_other_coefficients(self):
        self.shown(((-1, 2, 0), -1), "-a + 2*b - 1")
        self.shown(((-3, 0, -2), 10), "-3*a - 2*c + 10")
        self.shown(((3, 0, 0), 0), "3*a")
        self.shown(((10 ** 30, 0, 0), -(10 ** 30)), "1" + "0" * 30 + "*a - 1" + "0" * 30)

    def test_the_order_of_the_names(self):
        self.shown(((1, 2, 3), 4), "c + 2*a + 3*b + 4", ("c", "a", "b"))

    def test_a_shown_form_is_read_again_to_itself(self):
        chance = random.Random(7)
        for _ in range(2000):
            size = chance.choice((1, 2, 9, 10 ** 18, 10 ** 30, 10 ** 61))
            form = (tuple(chance.randint(-size, size) for _ in NAMES), chance.randint(-size, size))
            self.assertEqual(read_sum(NAMES, shown_sum(NAMES, form)), form)

    def test_what_was_told_may_be_handed_in_again_whatever_its_figures(self):
        names = ["a"]
        text = "*".join(["9" * 30] * 200)
        form = read_sum(names, text + "*a - " + text)
        again = read_sum(names, shown_sum(names, form))
        self.assertEqual(form, (((10 ** 30 - 1) ** 200,), -((10 ** 30 - 1) ** 200)))
        self.assertEqual(again, form)


class HandedInAndTold(Case):
    def test_the_list_of_names_stays(self):
        names = ["b", "a"]
        read_sum(names, "a - b")
        shown_sum(names, ((1, 2), 3))
        self.assertEqual(names, ["b", "a"])

    def test_a_list_that_is_changed_later_changes_nothing_told(self):
        names = ["a", "b"]
        form = read_sum(names, "a - b")
        names.clear()
        self.assertEqual(form, ((1, -1), 0))


class JudgedAnotherWay(Case):
    def test_all_short_texts(self):
        for text in all_texts("ax01 -+*()", 4):
            self.assertEqual(read(text, ["a"]), judged(["a"], text), text)

    def test_all_short_texts_of_products(self):
        for text in all_texts("ab*-()", 6):
            self.assertEqual(read(text), judged(NAMES, text), text)

    def test_long_sums_by_chance(self):
        chance = random.Random(11)
        for _ in range(4000):
            text = self.by_chance(chance, chance.randint(1, 4))
            self.assertEqual(read(text), judged(NAMES, text), text)

    def test_long_sums_with_one_sign_changed(self):
        chance = random.Random(13)
        for _ in range(2000):
            text = self.by_chance(chance, 2)[:60]
            place = chance.randrange(len(text))
            text = text[:place] + chance.choice("ax01 -+*()") + text[place + 1:]
            self.assertEqual(read(text), judged(NAMES, text), text)

    def by_chance(self, chance, depth):
        def blanks():
            return " " * chance.choice((0, 0, 1, 2))

        def factor(left):
            if left > 0 and chance.random() < 0.4:
                return "(" + whole(left - 1) + ")"
            return chance.choice(("a", "b", "c", "0", "1", "2", "13"))

        def whole(left):
            text = blanks() + chance.choice(("", "-")) + blanks() + factor(left)
            for _ in range(chance.randint(0, 3)):
                text += blanks() + chance.choice("+-*") + blanks() + factor(left)
            return text + blanks()

        return whole(depth)


if __name__ == "__main__":
    unittest.main()
