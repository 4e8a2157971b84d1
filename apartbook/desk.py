"""The desk: all houses of one book, and the letters between them, by rows of words."""

from apartbook.books import read_book
from apartbook.errors import NoDeed, NoRule, OutOfRange, ShortShare
from apartbook.houses import House
from apartbook.papers import paper_of, risen
from apartbook.words import is_name, is_number, number_of, shown_number

# What stands behind a row's first word; an other is a house unlike the first.
FORMS = {
    "do": ("house", "name", "number"),
    "give": ("house", "name", "other", "number"),
    "send": ("house", "other"),
    "come": ("letter",),
    "part": ("letter",),
    "lose": ("letter",),
    "state": ("house",),
    "shares": ("house",),
    "waits": ("house",),
    "fold": ("house",),
    "fall": ("house",),
    "same": ("house", "house"),
}


class Desk:
    def __init__(self, text, weights):
        self.book = read_book(text)
        self.weights = list(weights)
        self.houses = [House(self.book, weights, own) for own in range(len(weights))]
        self.sent = 0
        self.letters = {}

    def say(self, row):
        words = row.split(" ")
        if not is_row(words):
            return "what"
        form = FORMS[words[0]]
        told = [word if kind == "name" else number_of(word) for kind, word in zip(form, words[1:])]
        if not self.are_there(form, told):
            return "no"
        if form[0] == "letter":
            return self.say_of_letter(words[0], told[0])
        return self.say_of_house(words[0], told)

    def are_there(self, form, told):
        return all([self.is_there(kind, part, told) for kind, part in zip(form, told)])

    def is_there(self, kind, part, told):
        if kind == "letter":
            return part in self.letters
        if kind == "other" and part == told[0]:
            return False
        return kind in ("name", "number") or 0 <= part < len(self.houses)

    def say_of_letter(self, word, key):
        if word == "lose":
            self.letters.pop(key)
            return "ok"
        letter = self.letters[key]
        rows = letter[1] if word == "come" else letter[1][-1:]
        return "taken " + shown_number(heard(self.houses[letter[0]], rows))

    def say_of_house(self, word, told):
        house = self.houses[told[0]]
        if word == "do":
            return answer_do(house, told[1], told[2])
        if word == "give":
            return answer_give(house, told[1], told[2], told[3])
        if word == "send":
            return self.send(house, told[1])
        if word == "state":
            return shown_numbers(house.state())
        if word == "shares":
            return shown_shares(house)
        if word == "waits":
            return shown_number(len(house.waiting()))
        if word == "fold":
            return "folded " + shown_number(house.fold())
        if word == "fall":
            self.houses[told[0]] = risen(self.book, self.weights, paper_of(house))
            return "risen"
        return "yes" if house.counts() == self.houses[told[1]].counts() else "no"

    def send(self, house, to):
        key = self.sent
        self.letters[key] = (to, house.letter(house.surely(to)))
        self.sent += 1
        return "letter " + shown_number(key)


def is_row(words):
    form = FORMS.get(words[0])
    if form is None or len(form) != len(words) - 1:
        return False
    return all([is_name(word) if kind == "name" else is_number(word) for kind, word in zip(form, words[1:])])


def heard(house, rows):
    # A row may be taken that waited from earlier on, so the counts tell how
    # many were taken, not the answers for the rows.
    before = sum(house.counts())
    for row in rows:
        house.hear(row)
    return sum(house.counts()) - before


def answer_do(house, name, n):
    try:
        house.do(name, n)
    except NoDeed:
        return "no deed"
    except OutOfRange:
        return "no number"
    except ShortShare as error:
        return shown_short(error)
    return "ok"


def answer_give(house, name, to, amount):
    try:
        house.give(name, to, amount)
    except NoRule:
        return "no rule"
    except OutOfRange:
        return "no number"
    except ShortShare as error:
        return shown_short(error)
    return "ok"


def shown_short(error):
    return "short " + error.name + " " + shown_number(error.lack)


def shown_shares(house):
    parts = []
    for rule, part in enumerate(house.book[1]):
        shares = house.shares(rule)
        if shares is not None:
            parts.append(part[0] + " " + shown_numbers(shares))
    return "none" if parts == [] else ", ".join(parts)


def shown_numbers(numbers):
    return " ".join([shown_number(number) for number in numbers])
