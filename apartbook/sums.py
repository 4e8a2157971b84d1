"""Sums over names: read from texts to forms, shown, and reckoned for values.

A form is a tuple (coefficients, rest), the coefficients a tuple with one
number for each name in order.
"""

from apartbook.errors import NoName, NoText, NotPlain
from apartbook.words import NAME_LENGTH, is_figure, is_letter, number_of, shown_number

# What may come at a place of a text: the beginning of a sum (a factor, or a
# minus ahead of it), a factor alone, or what may stand behind a factor.
BEGINNING = "beginning"
FACTOR = "factor"
BEHIND = "behind"


def read_sum(names, text):
    pieces = pieces_of(text)
    for word, place in pieces:
        if is_letter(word[0]) and word not in names:
            raise NoName(word, place)
    return reckoned(names, pieces)


def shown_sum(names, form):
    text = ""
    for name, coefficient in zip(names, form[0]):
        if coefficient != 0:
            text = with_part(text, coefficient, shown_times(abs(coefficient), name))
    if form[1] != 0:
        text = with_part(text, form[1], shown_number(abs(form[1])))
    return "0" if text == "" else text


def value_of(form, values):
    return sum([coefficient * value for coefficient, value in zip(form[0], values)]) + form[1]


def shown_times(number, name):
    return name if number == 1 else shown_number(number) + "*" + name


def with_part(text, number, part):
    if text == "":
        return "-" + part if number < 0 else part
    return text + (" - " if number < 0 else " + ") + part


def pieces_of(text):
    # Every beginning that gets past may_stand can be ended to a sum, so the
    # first piece that doesn't get past begins at the place of NoText.
    pieces = []
    depth = 0
    wanted = BEGINNING
    place = 0
    while place < len(text):
        end = end_of_piece(text, place)
        word = text[place:end]
        if word != " ":
            if not may_stand(word[0], wanted, depth):
                raise NoText(place)
            pieces.append((word, place))
            depth += depth_by(word)
            wanted = wanted_behind(word)
        place = end
    if wanted != BEHIND or depth > 0:
        raise NoText(len(text))
    return pieces


def end_of_piece(text, place):
    # A number or name that is cut short here (behind a first 0, behind ten
    # letters) is followed by one side by side with it, which can't stand.
    end = place + 1
    if is_letter(text[place]):
        while end < len(text) and is_letter(text[end]) and end - place < NAME_LENGTH:
            end += 1
    elif is_figure(text[place]) and text[place] != "0":
        while end < len(text) and is_figure(text[end]):
            end += 1
    return end


def may_stand(sign, wanted, depth):
    if wanted == BEHIND:
        return sign in ("+", "-", "*") or (sign == ")" and depth > 0)
    if sign == "-":
        return wanted == BEGINNING
    return sign == "(" or is_letter(sign) or is_figure(sign)


def depth_by(word):
    if word == "(":
        return 1
    return -1 if word == ")" else 0


def wanted_behind(word):
    if word == "(":
        return BEGINNING
    return FACTOR if word in ("+", "-", "*") else BEHIND


def reckoned(names, pieces):
    # The open brackets are kept in a list, not by calls within calls, so that
    # how deep they may go doesn't hang on Python.
    sums = [OpenSum(len(names))]
    for word, place in pieces:
        if word == "(":
            sums.append(OpenSum(len(names)))
        elif word == ")":
            inner = sums.pop()
            sums[-1].take_factor(inner.whole())
        elif word in ("+", "-", "*"):
            sums[-1].take_sign(word, place)
        else:
            sums[-1].take_factor(form_of_word(names, word))
    return sums[0].whole()


class OpenSum:
    def __init__(self, width):
        self.total = (tuple([0] * width), 0)
        self.term = self.total
        self.term_sign = 1
        self.star = None

    def take_factor(self, form):
        if self.star is None:
            self.term = times(form, self.term_sign)
        else:
            self.term = product(self.term, form, self.star)

    def take_sign(self, sign, place):
        if sign == "*":
            self.star = place
        else:
            # The minus at a sum's beginning closes a term of noughts.
            self.total = self.whole()
            self.term_sign = -1 if sign == "-" else 1
            self.star = None

    def whole(self):
        return added(self.total, self.term)


def form_of_word(names, word):
    if is_letter(word[0]):
        return (tuple([1 if name == word else 0 for name in names]), 0)
    return (tuple([0] * len(names)), number_of(word))


def added(left, right):
    return (tuple([a + b for a, b in zip(left[0], right[0])]), left[1] + right[1])


def times(form, number):
    return (tuple([coefficient * number for coefficient in form[0]]), form[1] * number)


def product(left, right, place):
    if is_plain(right):
        return times(left, right[1])
    if is_plain(left):
        return times(right, left[1])
    raise NotPlain(place)


def is_plain(form):
    return all([coefficient == 0 for coefficient in form[0]])
