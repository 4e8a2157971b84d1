"""Books of items, rules and deeds: looked at, read, shown and reckoned with.

A book is a tuple (items, rules, deeds) of lists: an item is (name, start), a
rule (name, coefficients, rest), a deed (name, low, high, changes), its changes
a tuple with (a, b) for each item in order.
"""

from apartbook.errors import BookError, Broken, NoBook, NoLine
from apartbook.sums import read_sum, shown_sum, value_of
from apartbook.words import is_name, is_number, number_of, shown_number

MOST_ITEMS = 4
MOST_RULES = 5
MOST_DEEDS = 6

# The kinds of lines, in the order of a book's lists.
KINDS = ("item", "rule", "deed")


def check_book(book):
    if not is_book(book):
        raise NoBook()
    refuse_broken(book, starts_of(book))


def refuse_broken(book, state):
    for place, rule in enumerate(book[1]):
        if spare(book, place, state) < 0:
            raise Broken(rule[0])


def is_book(book):
    return are_named(book[0], MOST_ITEMS) and are_rules(book) and are_deeds(book)


def are_named(parts, most):
    names = names_of(parts)
    return 1 <= len(names) <= most and all([is_name(name) for name in names]) and len(set(names)) == len(names)


def are_rules(book):
    width = len(book[0])
    return are_named(book[1], MOST_RULES) and all([len(rule[1]) == width for rule in book[1]])


def are_deeds(book):
    width = len(book[0])
    return are_named(book[2], MOST_DEEDS) and all([len(deed[3]) == width and deed[1] <= deed[2] for deed in book[2]])


def names_of(parts):
    return [part[0] for part in parts]


def place_of(parts, name):
    names = names_of(parts)
    return names.index(name) if name in names else None


def copy_of(book):
    return (list(book[0]), list(book[1]), list(book[2]))


def starts_of(book):
    return tuple([item[1] for item in book[0]])


def read_book(text):
    book = ([], [], [])
    for line, row in enumerate(text.split("\n")):
        take_line(book, row, line)
    check_book(book)
    return book


def take_line(book, row, line):
    halves = row.partition(" ")
    refuse_unless(halves[0] in KINDS, line)
    place = KINDS.index(halves[0])
    refuse_unless(all([parts == [] for parts in book[place + 1:]]), line)
    part = read_part(names_of(book[0]), place, halves[2], line)
    refuse_unless(part[0] not in names_of(book[place]), line)
    book[place].append(part)


def refuse_unless(good, line):
    if not good:
        raise NoLine(line)


def read_part(items, place, text, line):
    if place == 0:
        return read_item(text, line)
    if place == 1:
        return read_rule(items, text, line)
    return read_deed(items, text, line)


def read_item(text, line):
    words = text.split(" ")
    refuse_unless(len(words) == 2 and is_name(words[0]) and is_number(words[1]), line)
    return (words[0], number_of(words[1]))


def read_rule(items, text, line):
    halves = text.partition(": ")
    refuse_unless(is_name(halves[0]), line)
    # Where a colon or a `>=` lacks, a side is empty, and so no sum.
    sides = halves[2].partition(">=")
    left = read_line_sum(items, sides[0], line)
    right = read_line_sum(items, sides[2], line)
    coefficients = tuple([a - b for a, b in zip(left[0], right[0])])
    return (halves[0], coefficients, left[1] - right[1])


def read_deed(items, text, line):
    halves = text.partition(": ")
    words = halves[0].split(" ")
    refuse_unless(len(words) == 4 and is_name(words[0]) and is_name(words[1]), line)
    refuse_unless(is_number(words[2]) and is_number(words[3]), line)
    changes = read_changes(items, words[1], halves[2], line)
    return (words[0], number_of(words[2]), number_of(words[3]), changes)


def read_changes(items, variable, text, line):
    found = {}
    parts = [] if text == "-" else text.split(", ")
    for part in parts:
        halves = part.partition(" ")
        refuse_unless(halves[0] in items and halves[0] not in found, line)
        form = read_line_sum([variable], halves[2], line)
        found[halves[0]] = (form[0][0], form[1])
    return tuple([found.get(item, (0, 0)) for item in items])


def read_line_sum(names, text, line):
    try:
        return read_sum(names, text)
    except BookError:
        raise NoLine(line) from None


def shown_book(book):
    items = names_of(book[0])
    rows = [shown_item(item) for item in book[0]]
    rows.extend([shown_rule(items, rule) for rule in book[1]])
    rows.extend([shown_deed(items, deed) for deed in book[2]])
    return "\n".join(rows)


def shown_item(item):
    return "item " + item[0] + " " + shown_number(item[1])


def shown_rule(items, rule):
    return "rule " + rule[0] + ": " + shown_sum(items, (rule[1], rule[2])) + " >= 0"


def shown_deed(items, deed):
    head = "deed " + deed[0] + " n " + shown_number(deed[1]) + " " + shown_number(deed[2])
    return head + ": " + shown_changes(items, deed[3])


def shown_changes(items, changes):
    parts = []
    for item, change in zip(items, changes):
        if change != (0, 0):
            parts.append(item + " " + shown_sum(["n"], ((change[0],), change[1])))
    return "-" if parts == [] else ", ".join(parts)


def gain(book, rule, deed):
    coefficients = book[1][rule][1]
    changes = book[2][deed][3]
    by_number = sum([coefficient * change[0] for coefficient, change in zip(coefficients, changes)])
    beside = sum([coefficient * change[1] for coefficient, change in zip(coefficients, changes)])
    return (by_number, beside)


def gained_by(book, rule, deed, n):
    gained = gain(book, rule, deed)
    return gained[0] * n + gained[1]


def least_gain(book, rule, deed):
    # A gain goes evenly with the number, so it is least at one of the ends.
    return min([gained_by(book, rule, deed, end) for end in book[2][deed][1:3]])


def is_free(book, rule, deed):
    return least_gain(book, rule, deed) >= 0


def spare(book, rule, state):
    return value_of((book[1][rule][1], book[1][rule][2]), state)


def has_number(book, deed, n):
    return book[2][deed][1] <= n <= book[2][deed][2]


def changed_by(book, state, deed, n):
    return tuple([number + change[0] * n + change[1] for number, change in zip(state, book[2][deed][3])])
