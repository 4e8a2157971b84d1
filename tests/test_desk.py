"""Points 1, 2 and 17 to 21 by rows of words, and the interface of apartbook.desk."""

import random
import re
import unittest

from apartbook.books import read_book, shown_book
from apartbook.desk import Desk

from helper import FARM, PlainHouse, any_book, outcome, spare_at

ROWS = {
    "do": r"(H) [a-z]{1,10} H", "give": r"(H) [a-z]{1,10} (H) H", "send": "(H) (H)", "come": "(H)", "part": "(H)",
    "lose": "(H)", "state": "(H)", "shares": "(H)", "waits": "(H)", "fold": "(H)", "fall": "(H)", "same": "(H) (H)",
}


class PlainDesk:
    """The desk word by word, with houses that keep every row and reckon all anew."""

    def __init__(self, text, weights):
        self.houses = [PlainHouse(read_book(text), weights, own) for own in range(len(weights))]
        self.letters = []

    def say(self, row):
        word, *words = row.split(" ")
        form = ROWS.get(word, "").replace("H", "(?:0|-?[1-9][0-9]*)")
        if word not in ROWS or not re.fullmatch(word + " " + form, row):
            return "what"
        asked = [int(number) for number in re.fullmatch(word + " " + form, row).groups()]
        if word in ("come", "part", "lose"):
            return self.say_of_letter(word, asked[0])
        if any(house not in range(len(self.houses)) for house in asked):
            return "no"
        if word in ("give", "send") and asked[0] == asked[1]:
            return "no"
        return getattr(self, "say_" + word)(self.houses[asked[0]], *words[1:])

    def say_of_letter(self, word, key):
        if key not in range(len(self.letters)) or self.letters[key] is None:
            return "no"
        to, rows = self.letters[key]
        if word == "lose":
            self.letters[key] = None
            return "ok"
        before = len(to.log.taken)
        for row in rows if word == "come" else rows[-1:]:
            to.hear(row)
        return f"taken {len(to.log.taken) - before}"

    def say_do(self, house, name, n):
        return self.done(outcome(house.do, name, int(n)))

    def say_give(self, house, name, to, amount):
        return self.done(outcome(house.give, name, int(to), int(amount)))

    def done(self, told):
        words = {"told": "ok", "NoDeed": "no deed", "NoRule": "no rule", "OutOfRange": "no number"}
        return words[told[0]] if told[0] in words else f"short {told[1]} {told[2]}"

    def say_send(self, house, to):
        self.letters.append((self.houses[int(to)], house.letter(house.surely(int(to)))))
        return f"letter {len(self.letters) - 1}"

    def say_state(self, house):
        return " ".join(map(str, house.state()))

    def say_shares(self, house):
        parts = [" ".join(map(str, [house.book[1][rule][0]] + house.shares(rule))) for rule in house.counted]
        return ", ".join(parts) or "none"

    def say_waits(self, house):
        return str(len(house.waiting()))

    def say_fold(self, house):
        return f"folded {house.fold()}"

    def say_fall(self, house):
        house.fall()
        return "risen"

    def say_same(self, house, to):
        return "yes" if sorted(house.log.taken) == sorted(self.houses[int(to)].log.taken) else "no"


class Talk(unittest.TestCase):
    def said(self, desk, talk):
        """Goes through rows and answers, `row -> answer` in each line."""
        for line in talk.strip().split("\n"):
            row, answer = line.strip().split(" -> ")
            self.assertEqual(desk.say(row), answer, line)

    def all_of(self, desk):
        return [desk.say(f"{word} {house}") for word in ("state", "shares", "waits", "same 0") for house in range(3)]


class Spoken(Talk):
    def test_made(self):
        desk = Desk(FARM, [1, 1, 1])
        self.said(desk, """
            state 0 -> 10 4
            state 2 -> 10 4
            shares 1 -> full 4 3 3, rich 2 1 1
            waits 1 -> 0
            fold 1 -> folded 0
            same 0 2 -> yes
        """)

    def test_refused_when_it_is_made(self):
        self.assertEqual(outcome(Desk, "", [1, 1]), ("NoLine", 0))
        self.assertEqual(outcome(Desk, FARM + "\n", [1, 1]), ("NoLine", 10))
        self.assertEqual(outcome(Desk, FARM.replace("rich:", "full:"), [1, 1]), ("NoLine", 4))
        self.assertEqual(outcome(Desk, "item a 1", [1, 1]), ("NoBook",))
        self.assertEqual(outcome(Desk, FARM.replace("buy n 1 9", "buy n 10 9"), [1, 1]), ("NoBook",))
        self.assertEqual(outcome(Desk, FARM.replace("corn >= 0", "corn >= 11"), [1, 1]), ("Broken", "full"))

    def test_do(self):
        self.said(Desk(FARM, [1, 1]), """
            do 0 sell 5 -> ok
            state 0 -> 5 19
            shares 0 -> full 0 5, rich 17 2
            state 1 -> 10 4
            do 0 sell 1 -> short full 1
            do 1 waste 3 -> short rich 1
            do 1 waste 6 -> short full 1
            do 1 steal 1 -> no deed
            do 1 full 1 -> no deed
            do 1 steal 99 -> no deed
            do 1 feed 10 -> no number
            do 1 feed -1 -> no number
            do 1 rest -2 -> ok
            do 1 rest -3 -> no number
            do 1 feed 9 -> short full 5
            do 1 feed 4 -> ok
            state 1 -> 5 4
        """)

    def test_give(self):
        self.said(Desk(FARM, [1, 1]), """
            give 0 full 1 5 -> ok
            shares 0 -> full 0 10, rich 2 2
            shares 1 -> full 5 5, rich 2 2
            give 0 full 1 1 -> short full 1
            give 0 rich 1 99 -> short rich 97
            give 0 both 1 1 -> no rule
            give 0 steal 1 1 -> no rule
            give 0 steal 1 0 -> no rule
            give 0 feed 1 1 -> no rule
            give 0 rich 1 0 -> no number
            give 0 rich 1 -1 -> no number
            give 0 full 1 0 -> no number
            give 0 rich 1 2 -> ok
            shares 0 -> full 0 10, rich 0 4
            state 0 -> 10 4
        """)

    def test_letters(self):
        self.said(Desk(FARM, [1, 1, 1]), """
            send 0 1 -> letter 0
            come 0 -> taken 0
            part 0 -> taken 0
            do 0 feed 1 -> ok
            give 0 full 1 2 -> ok
            come 0 -> taken 0
            send 0 1 -> letter 1
            send 0 2 -> letter 2
            do 1 sell 3 -> ok
            come 1 -> taken 2
            come 1 -> taken 0
            part 1 -> taken 0
            state 1 -> 5 13
            shares 1 -> full 0 2 3, rich 2 10 1
            state 2 -> 10 4
            send 1 2 -> letter 3
            come 3 -> taken 3
            come 2 -> taken 0
            same 1 2 -> yes
            same 2 1 -> yes
            same 0 1 -> no
            same 0 0 -> yes
            send 2 0 -> letter 4
            come 4 -> taken 1
            same 0 1 -> yes
        """)

    def test_a_letter_is_for_what_is_surely_known(self):
        self.said(Desk(FARM, [1, 1]), """
            do 0 rest 0 -> ok
            send 0 1 -> letter 0
            do 0 rest 1 -> ok
            send 0 1 -> letter 1
            lose 0 -> ok
            come 1 -> taken 2
            do 1 rest 0 -> ok
            send 1 0 -> letter 2
            come 2 -> taken 1
            do 0 rest 2 -> ok
            send 0 1 -> letter 3
            part 3 -> taken 1
            same 0 1 -> yes
        """)

    def test_a_letter_in_part(self):
        self.said(Desk(FARM, [1, 1]), """
            do 0 feed 0 -> ok
            do 0 sell 1 -> ok
            do 0 rest 0 -> ok
            send 0 1 -> letter 0
            part 0 -> taken 0
            waits 1 -> 1
            state 1 -> 10 4
            part 0 -> taken 0
            waits 1 -> 1
            come 0 -> taken 3
            waits 1 -> 0
            state 1 -> 8 7
        """)

    def test_rows_that_waited_are_told_with_the_letter_that_let_them_be_taken(self):
        self.said(Desk(FARM, [1, 1, 1]), """
            do 0 feed 0 -> ok
            send 0 1 -> letter 0
            send 0 2 -> letter 1
            come 0 -> taken 1
            do 1 feed 0 -> ok
            do 1 feed 0 -> ok
            send 1 2 -> letter 2
            part 2 -> taken 0
            waits 2 -> 1
            come 2 -> taken 3
            come 1 -> taken 0
            do 1 rest 0 -> ok
            do 1 rest 1 -> ok
            send 1 0 -> letter 3
            part 3 -> taken 0
            waits 0 -> 1
            come 3 -> taken 4
        """)

    def test_a_row_that_waited_comes_with_another_letter(self):
        self.said(Desk(FARM, [1, 1, 1]), """
            do 0 rest 0 -> ok
            send 0 1 -> letter 0
            send 0 2 -> letter 1
            come 0 -> taken 1
            do 1 rest 0 -> ok
            send 1 2 -> letter 2
            part 2 -> taken 0
            come 1 -> taken 2
            waits 2 -> 0
            same 1 2 -> yes
        """)

    def test_letters_that_are_lost_or_were_never_sent(self):
        self.said(Desk(FARM, [1, 1]), """
            come 0 -> no
            part 0 -> no
            lose 0 -> no
            do 0 feed 0 -> ok
            send 0 1 -> letter 0
            send 0 1 -> letter 1
            come 2 -> no
            come -1 -> no
            lose -1 -> no
            lose 0 -> ok
            lose 0 -> no
            come 0 -> no
            part 0 -> no
            send 0 1 -> letter 2
            come 1 -> taken 1
            lose 2 -> ok
            lose 1 -> ok
            send 0 1 -> letter 3
            come 3 -> taken 0
        """)

    def test_folds_and_falls(self):
        self.said(Desk(FARM, [1, 1]), """
            do 0 sell 2 -> ok
            send 0 1 -> letter 0
            come 0 -> taken 1
            do 1 feed 1 -> ok
            send 1 0 -> letter 1
            come 1 -> taken 1
            fold 0 -> folded 2
            fold 0 -> folded 0
            fold 1 -> folded 1
            state 0 -> 6 10
            shares 0 -> full 3 3, rich 8 2
            fall 0 -> risen
            fall 1 -> risen
            state 0 -> 6 10
            shares 0 -> full 3 3, rich 8 2
            state 1 -> 6 10
            same 0 1 -> yes
            come 0 -> taken 0
            come 1 -> taken 0
            fold 0 -> folded 0
            do 0 sell 4 -> short full 1
            do 0 sell 3 -> ok
            send 0 1 -> letter 2
            come 2 -> taken 1
            state 1 -> 3 19
            do 1 rest 0 -> ok
            fall 0 -> risen
            send 1 0 -> letter 3
            come 3 -> taken 1
            fold 0 -> folded 2
            fold 1 -> folded 2
            same 0 1 -> yes
        """)

    def test_what_waits_is_gone_with_a_fall(self):
        self.said(Desk(FARM, [1, 1]), """
            do 0 rest 0 -> ok
            do 0 rest 1 -> ok
            send 0 1 -> letter 0
            part 0 -> taken 0
            waits 1 -> 1
            fall 1 -> risen
            waits 1 -> 0
            come 0 -> taken 2
        """)

    def test_no_rule_is_counted(self):
        desk = Desk("item a 7\nitem b -3\nrule ever: 3 >= 0\ndeed less n 0 100: a -n", [1, 1])
        self.said(desk, """
            shares 0 -> none
            do 0 less 100 -> ok
            state 0 -> -93 -3
            give 0 ever 1 1 -> no rule
            fall 0 -> risen
            state 0 -> -93 -3
        """)

    def test_one_rule(self):
        desk = Desk("item a 7\nrule good: a >= 0\ndeed less n 0 100: a -n", [2, 0, 1])
        self.said(desk, "shares 0 -> good 5 0 2\ndo 2 less 100 -> short good 98")

    def test_words_of_the_desk_as_names(self):
        desk = Desk("item do 7\nrule give: do >= 0\ndeed do n 0 9: do -n\ndeed send n 0 9: do n", [1, 1])
        self.said(desk, "do 0 do 4 -> ok\ndo 0 send 1 -> ok\ngive 0 give 1 1 -> ok\nshares 0 -> give 0 4")

    def test_long_numbers(self):
        most = 10 ** 30 - 1
        desk = Desk(f"item a {most}\nrule good: a >= 0\ndeed less n -{most} {most}: a -n", [1, 0])
        self.said(desk, f"""
            do 0 less {most} -> ok
            do 0 less {most} -> short good {most}
            do 0 less -{most} -> ok
            do 0 less -{most} -> ok
            state 0 -> {2 * most}
            give 0 good 1 {most} -> ok
            shares 0 -> good {most} {most}
            do 0 less {most + 1} -> no number
            do {most} less 1 -> no
            come {most} -> no
        """)


class NoAndWhat(Talk):
    def setUp(self):
        self.desk = Desk(FARM, [1, 1, 1])
        self.said(self.desk, "do 0 feed 0 -> ok\nsend 0 1 -> letter 0\ndo 1 rest 0 -> ok")
        self.before = self.all_of(self.desk)

    def answered(self, answer, rows):
        for row in rows:
            self.assertEqual(self.desk.say(row), answer, row)
        self.assertEqual(self.all_of(self.desk), self.before)
        self.said(self.desk, "send 1 2 -> letter 1\ncome 0 -> taken 1")

    def test_no(self):
        self.answered("no", [
            "do 3 feed 0", "do 3 steal 0", "do 3 feed 99", "do -1 feed 0", "do -3 feed 0", "do 99 feed 9",
            "give 3 full 0 1", "give 0 full 3 1", "give 0 full 0 1", "give 0 full -1 1", "give 3 full 3 1",
            "give 0 steal 0 1", "give 0 steal 3 0", "give 0 both 0 1", "give 0 full 0 0", "give 0 full 3 99",
            "send 3 0", "send 0 3", "send 0 0", "send 1 1", "send -1 0", "send 0 -1", "send 3 3",
            "come 1", "come -1", "part 1", "part -1", "lose 1", "lose -1", "come 99",
            "state 3", "state -1", "shares 3", "shares -1", "waits 3", "waits -1", "fold 3", "fold -1", "fall 3", "fall -1",
            "same 0 3", "same 3 0", "same 3 3", "same -1 -1", "same 0 -1",
        ])

    def test_what(self):
        rows = ["", " ", "  ", "hello", "do", "say", "what", "ok", "0", "-", "do\n", "doo 0 feed 0", "house 0 of 3"]
        good = [
            "do 0 feed 0", "give 0 full 1 1", "send 0 1", "come 0", "part 0", "lose 0", "state 0", "shares 0", "waits 0",
            "fold 0", "fall 0", "same 0 1",
        ]
        for row in good:
            words = row.split(" ")
            rows += [" " + row, row + " ", row.replace(" ", "  ", 1), row.upper(), row.capitalize(), row + " 0", row + "\n"]
            rows += [row.rpartition(" ")[0], row.partition(" ")[2], words[0], row.replace(" ", "\t", 1), "\n" + row]
            rows += [row.replace(" ", ""), row.replace(" ", "  "), "_".join(words), row + "\t", row + ";", row + "\r"]
            for place in range(1, len(words)):
                rows.append(" ".join(words[:place] + ["x1"] + words[place + 1:]))
                rows.append(" ".join(words[:place] + [""] + words[place + 1:]))
                if words[place].isdigit():
                    for word in ("00", "-0", "01", "+1", "-01", "--1", "1.0", "a", "one", "1a", "-", "0x1", "1_0"):
                        rows.append(" ".join(words[:place] + [word] + words[place + 1:]))
        for name in ("Feed", "FEED", "abcdefghijk", "fe3d", "f-d", "0", "-1", "fe_d"):
            rows += [f"do 0 {name} 0", f"give 0 {name} 1 1", f"do 9 {name} 0", f"give 0 {name} 0 1"]
        rows += ["do 9 feed x", "give 0 full 0 x", "send 9 x", "same 9 x", "do x steal 99", "give 9 full 01 1", "do feed 0 0"]
        self.answered("what", rows)

    def test_names_of_ten_letters_are_names(self):
        self.answered("no deed", ["do 0 abcdefghij 0"])

    def test_refused_deeds_leave_all_as_it_was(self):
        for row in ("do 0 steal 1", "do 0 feed 99", "do 0 feed 9", "give 0 steal 1 1", "give 0 full 1 0", "give 0 full 1 9"):
            self.assertIn(self.desk.say(row).split(" ")[0], ("no", "short"))
        self.assertEqual(self.all_of(self.desk), self.before)

    def test_kinds_and_names_of_arguments(self):
        desk = Desk(text=FARM, weights=[1, 1])
        self.assertIs(type(desk.say(row="state 0")), str)
        self.assertEqual(desk.say(row="state"), "what")


class DeskApart(Talk):
    def test_weights_changed_later(self):
        weights = [3, 1]
        desk = Desk(FARM, weights)
        self.assertEqual(weights, [3, 1])
        weights.append(5)
        weights[0] = 0
        self.said(desk, """
            fall 0 -> risen
            shares 0 -> full 8 2, rich 3 1
            send 0 2 -> no
            fall 1 -> risen
            shares 1 -> full 8 2, rich 3 1
        """)

    def test_two_desks(self):
        first, second = Desk(FARM, [1, 1]), Desk(FARM, [1, 1])
        self.said(first, "do 0 feed 0 -> ok\nsend 0 1 -> letter 0")
        self.said(second, "state 0 -> 10 4\ncome 0 -> no\nsend 0 1 -> letter 0")


class AnyRows(unittest.TestCase):
    def row(self, chance, desk, book):
        houses = len(desk.houses)
        own = chance.randint(0, houses - 1) if chance.random() < 0.95 else chance.choice((-1, houses))
        to = chance.randint(0, houses - 1) if chance.random() < 0.95 else chance.choice((-1, houses))
        key = chance.randint(max(-1, len(desk.letters) - 9), len(desk.letters))
        deed = chance.choice(book[2])
        n = chance.randint(deed[1] - (chance.random() < 0.1), deed[2] + (chance.random() < 0.1))
        name = deed[0] if chance.random() < 0.95 else "steal"
        rule = chance.choice(book[1])[0] if chance.random() < 0.95 else "steal"
        rows = [f"do {own} {name} {n}"] * 8 + [f"give {own} {rule} {to} {chance.randint(0, 4)}"] * 3
        rows += [f"send {own} {to}"] * 6 + [f"come {key}"] * 6 + [f"part {key}"] * 3 + [f"lose {key}"]
        rows += [f"{word} {own}" for word in ("state", "shares", "waits", "fold", "fall")] + [f"same {own} {to}"]
        row = chance.choice(rows)
        if chance.random() < 0.03:
            place = chance.randint(0, len(row) - 1)
            row = row[:place] + chance.choice(("", " ", "0", "-", "a", "A")) + row[place + chance.randint(0, 1):]
        return row

    def test_any_rows(self):
        chance = random.Random(91)
        heard = {}
        for round in range(60):
            book = any_book(chance)
            weights = [chance.randint(0, 2) for house in range(chance.randint(2, 4))]
            weights[chance.randrange(len(weights))] += 1
            desk, plain = Desk(shown_book(book), weights), PlainDesk(shown_book(book), weights)
            for turn in range(120):
                row = self.row(chance, plain, book)
                answer = desk.say(row)
                self.assertEqual(answer, plain.say(row), row)
                first = " ".join(answer.split(" ")[:2]) if answer.startswith("no ") else answer.split(" ")[0]
                heard[first] = heard.get(first, 0) + 1
                self.keeps(desk, len(weights), book)
            for house in range(len(weights)):
                for word in ("state", "shares", "waits"):
                    self.assertEqual(desk.say(f"{word} {house}"), plain.say(f"{word} {house}"))
        for answer in ("ok", "no deed", "no rule", "no number", "short", "taken", "risen", "folded", "yes", "no", "what"):
            self.assertGreater(heard[answer], 20, heard)

    def keeps(self, desk, houses, book):
        for house in range(houses):
            state = tuple(int(number) for number in desk.say(f"state {house}").split(" "))
            for rule in range(len(book[1])):
                self.assertGreaterEqual(spare_at(book, rule, state), 0)


if __name__ == "__main__":
    unittest.main()
