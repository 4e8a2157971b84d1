"""What several tests use: refusals told as tuples; sums, points, weights and houses judged another way."""

import ast
import itertools
import math
import re
from fractions import Fraction

from apartbook.deals import dealt
from apartbook.errors import BookError, Folded, NoDeed, NoRule, OutOfRange, ShortShare
from apartbook.rules import counted

FLAT = r" *-? *(?:#|0|[1-9][0-9]*|[a-z]{1,10})(?: *[-+*] *(?:#|0|[1-9][0-9]*|[a-z]{1,10}))* *"
FLAT_SUM = re.compile(FLAT)
INNERMOST = re.compile(r"\((" + FLAT + r")\)")

# A good book, the first rule of which is needless.
FARM = """item corn 10
item gold 4
rule both: corn + gold >= 0
rule full: corn >= 0
rule rich: gold >= 0
deed sell n 1 5: corn -n, gold 3*n
deed buy n 1 9: corn n, gold -2*n
deed feed n 0 9: corn -n - 1
deed waste n 0 9: corn -n, gold -n
deed rest n -2 2: -"""


def outcome(function, *arguments):
    """What a call told, or the name and the fields of its refusal."""
    try:
        return ("told", function(*arguments))
    except BookError as error:
        return (type(error).__name__,) + tuple(vars(error).values())


def is_sum(text):
    """Whether a text is a sum, by taking brackets away from within."""
    if "#" in text:
        return False
    while INNERMOST.search(text):
        text = INNERMOST.sub("#", text)
    return FLAT_SUM.fullmatch(text) is not None


def begins_a_sum(text):
    ends = [")" * depth for depth in range(text.count("(") + 1)]
    return any(is_sum(text + factor + end) for factor in ("", "1") for end in ends)


def place_of_no_text(text):
    return max(size for size in range(len(text) + 1) if begins_a_sum(text[:size]))


def judged(names, text):
    """What read_sum must tell of a text, by Python's own reading of sums."""
    if not is_sum(text):
        return ("NoText", place_of_no_text(text))
    for found in re.finditer("[a-z]+", text):
        if found.group() not in names:
            return ("NoName", found.group(), found.start())
    shift = len(text) - len(text.lstrip())
    star = first_bent_star(text, shift, ast.parse(text.strip(), mode="eval").body)
    if star is not None:
        return ("NotPlain", star)
    return ("told", form_by_values(names, text.strip()))


def form_by_values(names, text):
    def value(one):
        return eval(text, {}, {name: int(name == one) for name in names})
    rest = value(None)
    return (tuple(value(name) - rest for name in names), rest)


def first_bent_star(text, shift, node):
    if isinstance(node, ast.UnaryOp):
        return first_bent_star(text, shift, node.operand)
    if not isinstance(node, ast.BinOp):
        return None
    for side in (node.left, node.right):
        inner = first_bent_star(text, shift, side)
        if inner is not None:
            return inner
    if isinstance(node.op, ast.Mult) and moves(node.left) and moves(node.right):
        return text.index("*", shift + node.left.end_col_offset)
    return None


def moves(node):
    """Whether the value of a plain sum hangs on a name."""
    names = sorted({leaf.id for leaf in ast.walk(node) if isinstance(leaf, ast.Name)})
    form = form_by_values(names, ast.unparse(node))
    return any(form[0])


def all_texts(signs, length):
    for size in range(length + 1):
        for word in itertools.product(signs, repeat=size):
            yield "".join(word)


def value_by_fractions(coefficients, rest, point):
    return sum((coefficient * Fraction(*number) for coefficient, number in zip(coefficients, point)), Fraction(rest))


def holds_by_fractions(inequality, point):
    value = value_by_fractions(inequality[0], inequality[1], point)
    return value > 0 or (value == 0 and inequality[2] is False)


def is_point(point, unknowns):
    """Whether it is a list of fractions without a common part, one for each unknown."""
    if type(point) is not list or len(point) != unknowns:
        return False
    for number in point:
        if type(number) is not tuple or [type(part) for part in number] != [int, int]:
            return False
        if number[1] < 1 or math.gcd(*number) != 1:
            return False
    return True


def are_weights(weights, size):
    """Whether it is a list of whole numbers, at least nought, of that size."""
    if type(weights) is not list or len(weights) != size:
        return False
    return all(type(weight) is int and weight >= 0 for weight in weights)


def show_none(inequalities, unknowns, weights):
    """Whether weights show that no point is there, by point 12's own words."""
    if not are_weights(weights, len(inequalities)):
        return False
    pairs = list(zip(inequalities, weights))
    for unknown in range(unknowns):
        if sum(weight * inequality[0][unknown] for inequality, weight in pairs) != 0:
            return False
    rest = sum(weight * inequality[1] for inequality, weight in pairs)
    return rest < 0 or (rest == 0 and any(weight > 0 and inequality[2] for inequality, weight in pairs))


def spare_at(book, rule, state):
    return sum(coefficient * number for coefficient, number in zip(book[1][rule][1], state)) + book[1][rule][2]


class PlainLog:
    """Point 16 word by word."""

    def __init__(self, houses):
        self.houses = houses
        self.taken = []
        self.wait = {}

    def counts(self):
        return tuple(sum(one[0] == house for one in self.taken) for house in range(self.houses))

    def can(self, one):
        counts = self.counts()
        return one[1] == counts[one[0]] and all(a <= b for a, b in zip(one[2], counts))

    def take(self, one):
        if any(one[:2] == other[:2] for other in self.taken):
            return "known"
        if not self.can(one):
            self.wait.setdefault(one[:2], one)
            return "waits"
        self.taken.append(one)
        while any(self.can(other) for other in self.wait.values()):
            first = min(key for key in self.wait if self.can(self.wait[key]))
            self.taken.append(self.wait.pop(first))
        return "taken"


class PlainHouse:
    """Points 17 to 21 word by word: no row is dropped, and all is reckoned anew of them whenever it is asked."""

    def __init__(self, book, weights, own):
        self.book = book
        self.weights = weights
        self.own = own
        self.counted = counted(book)
        self.log = PlainLog(len(weights))
        self.gone = []

    def state_of(self, rows):
        state = [item[1] for item in self.book[0]]
        for house, number, causes, deed in rows:
            if deed[0] == "do":
                for item, (a, b) in enumerate(self.book[2][deed[1]][3]):
                    state[item] += a * deed[2] + b
        return tuple(state)

    def state(self):
        return self.state_of(self.log.taken)

    def shares_of(self, rule, rows):
        shares = dealt(spare_at(self.book, rule, self.state_of([])), self.weights)
        for house, number, causes, deed in rows:
            if deed[0] == "do":
                shares[house] += self.gained(rule, deed)
            elif deed[1] == rule:
                shares[house] -= deed[3]
                shares[deed[2]] += deed[3]
        return shares

    def shares(self, rule):
        return self.shares_of(rule, self.log.taken) if rule in self.counted else None

    def gained(self, rule, deed):
        changes = [a * deed[2] + b for a, b in self.book[2][deed[1]][3]]
        return sum(coefficient * change for coefficient, change in zip(self.book[1][rule][1], changes))

    def do(self, name, n):
        places = [place for place, deed in enumerate(self.book[2]) if deed[0] == name]
        if not places:
            raise NoDeed(name)
        deed = ("do", places[0], n)
        if n < self.book[2][places[0]][1] or n > self.book[2][places[0]][2]:
            raise OutOfRange()
        for rule in self.counted:
            left = self.shares(rule)[self.own] + self.gained(rule, deed)
            if left < 0:
                raise ShortShare(self.book[1][rule][0], -left)
        return self.make(deed)

    def give(self, name, to, amount):
        places = [place for place in self.counted if self.book[1][place][0] == name]
        if not places:
            raise NoRule(name)
        if to not in range(len(self.weights)) or to == self.own or amount < 1:
            raise OutOfRange()
        share = self.shares(places[0])[self.own]
        if share < amount:
            raise ShortShare(name, amount - share)
        return self.make(("give", places[0], to, amount))

    def make(self, deed):
        counts = self.counts()
        row = (self.own, counts[self.own], counts, deed)
        self.log.take(row)
        return row

    def hear(self, row):
        return self.log.take(row)

    def counts(self):
        return self.log.counts()

    def waiting(self):
        return sorted(self.log.wait)

    def rows(self):
        return [row for row in self.log.taken if row not in self.gone]

    def letter(self, counts):
        if any(row[1] >= counts[row[0]] for row in self.gone):
            raise Folded()
        return [row for row in self.log.taken if row[1] >= counts[row[0]]]

    def surely_by(self, house, rows):
        of_house = [row for row in rows if row[0] == house]
        if not of_house:
            return (0,) * len(self.weights)
        causes = list(of_house[-1][2])
        causes[house] = of_house[-1][1] + 1
        return tuple(causes)

    def surely(self, house):
        return self.counts() if house == self.own else self.surely_by(house, self.log.taken)

    def fold(self):
        houses = range(len(self.weights))
        ripe = [row for row in self.rows() if all(row[1] < self.surely(house)[row[0]] for house in houses)]
        self.gone.extend(ripe)
        return len(ripe)

    def base(self):
        return tuple(sum(row[0] == house for row in self.gone) for house in range(len(self.weights)))

    def paper(self):
        lines = [f"house {self.own} of {len(self.weights)}", worded("base", self.base())]
        lines.append(worded("state", self.state_of(self.gone)))
        for rule in self.counted:
            lines.append(worded("shares " + self.book[1][rule][0], self.shares_of(rule, self.gone)))
        for house in range(len(self.weights)):
            lines.append(worded("knows", self.surely_by(house, self.gone)))
        for house, number, causes, deed in self.rows():
            name = self.book[2 if deed[0] == "do" else 1][deed[1]][0]
            lines.append(worded(worded(house, (number,) + causes) + f" {deed[0]} {name}", deed[2:]))
        return "\n".join(lines)

    def fall(self):
        self.log.wait.clear()


def worded(begin, numbers):
    return " ".join([str(begin)] + [str(number) for number in numbers])


def talk(houses, rows):
    """Each of the houses hears all of the rows."""
    for house in houses:
        for row in rows:
            house.hear(row)


def told_by(house):
    """All that a house tells without being changed, and its refusals."""
    houses = range(len(house.counts()))
    shares = [house.shares(rule) for rule in range(len(house.book[1]))]
    surely = [house.surely(one) for one in houses]
    letters = [outcome(house.letter, counts) for counts in surely + [(0,) * len(houses), house.base()]]
    lists = (house.rows(), house.waiting(), letters)
    return (house.state(), shares, house.counts(), house.base(), surely) + lists


def any_book(chance):
    """A good book with few numbers, where some rules come of others and so are needless."""
    items = [(name, chance.randint(-3, 12)) for name in "abcd"[:chance.randint(1, 4)]]
    state = [item[1] for item in items]
    rules = []
    for name in ["one", "two", "three", "four", "five"][:chance.randint(1, 5)]:
        coefficients = [chance.choice((-1, 0, 0, 1, 1, 2)) for item in items]
        rest = chance.randint(0, 9) - sum(a * b for a, b in zip(coefficients, state))
        if len(rules) > 1 and chance.random() < 0.4:
            first, second = chance.sample(rules, 2)
            coefficients = [a + b for a, b in zip(first[1], second[1])]
            rest = first[2] + second[2] + chance.randint(0, 1)
        rules.append((name, tuple(coefficients), rest))
    chance.shuffle(rules)
    deeds = []
    for name in ["do", "give", "of", "shares", "knows", "base"][:chance.randint(1, 6)]:
        low = chance.randint(-2, 1)
        changes = tuple((chance.randint(-1, 1), chance.choice((0, 0, -1, 1))) for item in items)
        deeds.append((name, low, low + chance.randint(0, 4), changes))
    return (items, rules, deeds)
