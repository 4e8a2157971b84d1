"""Names and numbers as they stand in texts."""

NAME_LENGTH = 10

# Python's own int and str refuse numbers of some thousand figures, and what
# was told may be handed in again whatever its figures: so they get parts.
PART_FIGURES = 18
PART_SIZE = 1000000000000000000


def is_letter(sign):
    return "a" <= sign <= "z"


def is_figure(sign):
    return "0" <= sign <= "9"


def is_name(word):
    return 1 <= len(word) <= NAME_LENGTH and all([is_letter(sign) for sign in word])


def is_figures(word):
    if word == "" or not all([is_figure(sign) for sign in word]):
        return False
    return word == "0" or not word.startswith("0")


def is_number(word):
    if word.startswith("-"):
        return word != "-0" and is_figures(word[1:])
    return is_figures(word)


def number_of(word):
    if word.startswith("-"):
        return -number_of_figures(word[1:])
    return number_of_figures(word)


def number_of_figures(word):
    first = len(word) % PART_FIGURES
    number = 0 if first == 0 else int(word[:first])
    for place in range(first, len(word), PART_FIGURES):
        number = number * PART_SIZE + int(word[place:place + PART_FIGURES])
    return number


def shown_number(number):
    parts = []
    left = abs(number)
    while left >= PART_SIZE:
        parts.append(str(left % PART_SIZE).zfill(PART_FIGURES))
        left = left // PART_SIZE
    parts.append(str(left))
    if number < 0:
        parts.append("-")
    return "".join(reversed(parts))
