"""Papers: a house written down, and one like it made of what was written."""

from apartbook.books import has_number, place_of
from apartbook.errors import NoPaper
from apartbook.houses import House, Tally
from apartbook.words import is_number, number_of, shown_number


def paper_of(house):
    folded = house.folded
    lines = ["house " + shown_number(house.own) + " of " + shown_number(house.houses)]
    lines.append(line_of(["base"], folded.reached))
    lines.append(line_of(["state"], folded.numbers))
    for rule in folded.parts:
        lines.append(line_of(["shares", house.book[1][rule][0]], folded.parts[rule]))
    lines.extend([line_of(["knows"], counts) for counts in folded.known])
    lines.extend([shown_row(house.book, row) for row in house.rows()])
    return "\n".join(lines)


def line_of(words, numbers):
    return " ".join(words + [shown_number(number) for number in numbers])


def shown_row(book, row):
    deed = row[3]
    parts = book[2] if deed[0] == "do" else book[1]
    name = parts[deed[1]][0]
    return line_of([], (row[0], row[1]) + row[2]) + " " + line_of([deed[0], name], deed[2:])


def risen(book, weights, text):
    lines = text.split("\n")
    house = House(book, weights, read_own(lines, len(weights)))
    house.begin(read_tally(lines, house))
    for line in range(lines_ahead(house), len(lines)):
        row = read_row(house, lines[line].split(" "))
        refuse_unless(row is not None and house.hear(row) == "taken", line)
    return house


def refuse_unless(good, line):
    if not good:
        raise NoPaper(line)


def lines_ahead(house):
    return 3 + len(house.folded.parts) + house.houses


def read_own(lines, houses):
    words = lines[0].split(" ")
    refuse_unless(len(words) == 4 and words[0] == "house" and words[2] == "of", 0)
    refuse_unless(is_number(words[1]) and words[3] == shown_number(houses), 0)
    own = number_of(words[1])
    refuse_unless(0 <= own < houses, 0)
    return own


def read_tally(lines, house):
    reached = read_counts(lines, 1, "base", house.houses)
    numbers = read_numbers(lines, 2, ["state"], len(house.book[0]))
    parts = {}
    for line, rule in enumerate(house.folded.parts, start=3):
        parts[rule] = read_numbers(lines, line, ["shares", house.book[1][rule][0]], house.houses)
    end = lines_ahead(house)
    known = [tuple(read_counts(lines, line, "knows", house.houses)) for line in range(end - house.houses, end)]
    return Tally(reached, numbers, parts, known)


def read_counts(lines, line, word, size):
    counts = read_numbers(lines, line, [word], size)
    refuse_unless(min(counts) >= 0, line)
    return counts


def read_numbers(lines, line, begin, size):
    # The lines ahead are there, so the first one that lacks has as its number
    # how many there are.
    refuse_unless(line < len(lines), line)
    words = lines[line].split(" ")
    refuse_unless(words[:len(begin)] == begin and are_numbers(words[len(begin):], size), line)
    return [number_of(word) for word in words[len(begin):]]


def are_numbers(words, size):
    return len(words) == size and all([is_number(word) for word in words])


def read_row(house, words):
    end = 2 + house.houses
    if not are_numbers(words[:end], end):
        return None
    numbers = [number_of(word) for word in words[:end]]
    causes = tuple(numbers[2:])
    if min(numbers) < 0 or numbers[0] >= house.houses or causes[numbers[0]] != numbers[1]:
        return None
    deed = read_deed(house, numbers[0], words[end:])
    return None if deed is None else (numbers[0], numbers[1], causes, deed)


def read_deed(house, doer, words):
    if words[:1] == ["do"] and len(words) == 3:
        return read_do(house.book, words)
    if words[:1] == ["give"] and len(words) == 4:
        return read_give(house, doer, words)
    return None


def read_do(book, words):
    deed = place_of(book[2], words[1])
    if deed is None or not is_number(words[2]):
        return None
    n = number_of(words[2])
    return ("do", deed, n) if has_number(book, deed, n) else None


def read_give(house, doer, words):
    rule = house.counted_place(words[1])
    if rule is None or not are_numbers(words[2:], 2):
        return None
    to = number_of(words[2])
    amount = number_of(words[3])
    return ("give", rule, to, amount) if house.is_other(doer, to) and amount >= 1 else None
