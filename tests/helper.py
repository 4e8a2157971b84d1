"""What several tests use: refusals told as tuples; sums, points and weights judged another way."""

import ast
import itertools
import math
import re
from fractions import Fraction

from apartbook.errors import BookError

FLAT = r" *-? *(?:#|0|[1-9][0-9]*|[a-z]{1,10})(?: *[-+*] *(?:#|0|[1-9][0-9]*|[a-z]{1,10}))* *"
FLAT_SUM = re.compile(FLAT)
INNERMOST = re.compile(r"\((" + FLAT + r")\)")


def outcome(function, *arguments):
    """What a call told, or the name and the fields of its refusal."""
    try:
        return ("told", function(*arguments))
    except BookError as error:
        return (type(error).__name__,) + tuple(vars(error).values())


def is_sum(text):
    """Whether a text is a sum, by taking brackets away from within."""
    if "#" in text:
        return False
    while INNERMOST.search(text):
        text = INNERMOST.sub("#", text)
    return FLAT_SUM.fullmatch(text) is not None


def begins_a_sum(text):
    ends = [")" * depth for depth in range(text.count("(") + 1)]
    return any(is_sum(text + factor + end) for factor in ("", "1") for end in ends)


def place_of_no_text(text):
    return max(size for size in range(len(text) + 1) if begins_a_sum(text[:size]))


def judged(names, text):
    """What read_sum must tell of a text, by Python's own reading of sums."""
    if not is_sum(text):
        return ("NoText", place_of_no_text(text))
    for found in re.finditer("[a-z]+", text):
        if found.group() not in names:
            return ("NoName", found.group(), found.start())
    shift = len(text) - len(text.lstrip())
    star = first_bent_star(text, shift, ast.parse(text.strip(), mode="eval").body)
    if star is not None:
        return ("NotPlain", star)
    return ("told", form_by_values(names, text.strip()))


def form_by_values(names, text):
    def value(one):
        return eval(text, {}, {name: int(name == one) for name in names})
    rest = value(None)
    return (tuple(value(name) - rest for name in names), rest)


def first_bent_star(text, shift, node):
    if isinstance(node, ast.UnaryOp):
        return first_bent_star(text, shift, node.operand)
    if not isinstance(node, ast.BinOp):
        return None
    for side in (node.left, node.right):
        inner = first_bent_star(text, shift, side)
        if inner is not None:
            return inner
    if isinstance(node.op, ast.Mult) and moves(node.left) and moves(node.right):
        return text.index("*", shift + node.left.end_col_offset)
    return None


def moves(node):
    """Whether the value of a plain sum hangs on a name."""
    names = sorted({leaf.id for leaf in ast.walk(node) if isinstance(leaf, ast.Name)})
    form = form_by_values(names, ast.unparse(node))
    return any(form[0])


def all_texts(signs, length):
    for size in range(length + 1):
        for word in itertools.product(signs, repeat=size):
            yield "".join(word)


def value_by_fractions(coefficients, rest, point):
    return sum((coefficient * Fraction(*number) for coefficient, number in zip(coefficients, point)), Fraction(rest))


def holds_by_fractions(inequality, point):
    value = value_by_fractions(inequality[0], inequality[1], point)
    return value > 0 or (value == 0 and inequality[2] is False)


def is_point(point, unknowns):
    """Whether it is a list of fractions without a common part, one for each unknown."""
    if type(point) is not list or len(point) != unknowns:
        return False
    for number in point:
        if type(number) is not tuple or [type(part) for part in number] != [int, int]:
            return False
        if number[1] < 1 or math.gcd(*number) != 1:
            return False
    return True


def are_weights(weights, size):
    """Whether it is a list of whole numbers, at least nought, of that size."""
    if type(weights) is not list or len(weights) != size:
        return False
    return all(type(weight) is int and weight >= 0 for weight in weights)


def show_none(inequalities, unknowns, weights):
    """Whether weights show that no point is there, by point 12's own words."""
    if not are_weights(weights, len(inequalities)):
        return False
    pairs = list(zip(inequalities, weights))
    for unknown in range(unknowns):
        if sum(weight * inequality[0][unknown] for inequality, weight in pairs) != 0:
            return False
    rest = sum(weight * inequality[1] for inequality, weight in pairs)
    return rest < 0 or (rest == 0 and any(weight > 0 and inequality[2] for inequality, weight in pairs))
