"""Inequalities over unknowns: a point at which all hold, or weights that show there is none.

An inequality is a tuple (coefficients, rest, strict), a point a list with a
fraction (top, bottom) for each unknown. The unknowns are taken out one behind
the other. A row is a tuple (inequality, weights): an inequality and the weights
with which it is the sum of those that were handed in.
"""


def solved(inequalities, unknowns):
    stages = [first_rows(inequalities)]
    for unknown in range(unknowns):
        stages.append(taken_out(inequalities, stages[unknown], unknown))
    # All unknowns are out of the last rows, so each holds always or never.
    for inequality, weights in stages[unknowns]:
        if not is_enough(inequality[1], inequality[2]):
            return ("weights", weights)
    return ("point", point_by(stages, unknowns))


def holds_at(inequality, point):
    return is_enough(value_at(inequality[0], inequality[1], point)[0], inequality[2])


def shows_none(inequalities, unknowns, weights):
    if len(weights) != len(inequalities) or any([weight < 0 for weight in weights]):
        return False
    total = weighted(inequalities, unknowns, weights)
    return all([coefficient == 0 for coefficient in total[0]]) and not is_enough(total[1], total[2])


def is_enough(number, strict):
    return number > 0 if strict else number >= 0


def weighted(inequalities, unknowns, weights):
    coefficients = []
    for unknown in range(unknowns):
        coefficients.append(weighted_sum([inequality[0][unknown] for inequality in inequalities], weights))
    rest = weighted_sum([inequality[1] for inequality in inequalities], weights)
    strict = any([weight > 0 and inequality[2] for inequality, weight in zip(inequalities, weights)])
    return (tuple(coefficients), rest, strict)


def weighted_sum(numbers, weights):
    return sum([number * weight for number, weight in zip(numbers, weights)])


def first_rows(inequalities):
    rows = []
    for place, inequality in enumerate(inequalities):
        weights = [0] * len(inequalities)
        weights[place] = 1
        rows.append((inequality, weights))
    return rows


def taken_out(inequalities, rows, unknown):
    found = [row for row in rows if row[0][0][unknown] == 0]
    for rising in [row for row in rows if row[0][0][unknown] > 0]:
        for falling in [row for row in rows if row[0][0][unknown] < 0]:
            weights = joined(rising, falling, unknown)
            found.append((weighted(inequalities, len(rising[0][0]), weights), weights))
    return needed(found)


def joined(rising, falling, unknown):
    for_rising = -falling[0][0][unknown]
    for_falling = rising[0][0][unknown]
    weights = [for_rising * a + for_falling * b for a, b in zip(rising[1], falling[1])]
    common = 0
    for weight in weights:
        common = common_part(common, weight)
    return [weight // common for weight in weights]


def needed(rows):
    # A row made of all the inequalities of another one and of more (or of just
    # the same, and not alike) is a sum of rows that are made of fewer. Without
    # such ones the rows stay few and say the same.
    by_places = {}
    for row in rows:
        by_places.setdefault(places_used(row[1]), row)
    found = list(by_places)
    return [by_places[places] for places in found if not any([is_less_of(other, places) for other in found])]


def places_used(weights):
    return tuple([place for place, weight in enumerate(weights) if weight > 0])


def is_less_of(some, places):
    return len(some) < len(places) and all([place in places for place in some])


def point_by(stages, unknowns):
    # The rows ahead of an unknown's taking out have none of the earlier ones:
    # so, from the last unknown on, they bound it by those already found.
    point = []
    for unknown in range(unknowns - 1, -1, -1):
        point.insert(0, number_for(stages[unknown], unknown, point))
    return point


def number_for(rows, unknown, later):
    low = None
    high = None
    for inequality in [row[0] for row in rows]:
        if inequality[0][unknown] > 0:
            bound = bound_by(inequality, unknown, later)
            low = bound if low is None or is_less(low, bound) else low
        elif inequality[0][unknown] < 0:
            bound = bound_by(inequality, unknown, later)
            high = bound if high is None or is_less(bound, high) else high
    return between(low, high)


def bound_by(inequality, unknown, later):
    beside = value_at(inequality[0][unknown + 1:], inequality[1], later)
    return fraction(-beside[0], beside[1] * inequality[0][unknown])


def between(low, high):
    # Bounds that meet are both not strict, else the rows that are joined of
    # them would not hold; in all other cases a number off both is found.
    if low is None and high is None:
        return (0, 1)
    if low is None:
        return ((high[0] - 1) // high[1], 1)
    above = (low[0] // low[1] + 1, 1)
    if high is None or is_less(above, high):
        return above
    return fraction(low[0] * high[1] + high[0] * low[1], 2 * low[1] * high[1])


def value_at(coefficients, rest, point):
    top = rest
    bottom = 1
    for coefficient, number in zip(coefficients, point):
        top = top * number[1] + coefficient * number[0] * bottom
        bottom = bottom * number[1]
    return (top, bottom)


def is_less(left, right):
    return left[0] * right[1] < right[0] * left[1]


def fraction(top, bottom):
    common = common_part(abs(top), abs(bottom))
    if bottom < 0:
        common = -common
    return (top // common, bottom // common)


def common_part(left, right):
    while right != 0:
        rest = left % right
        left = right
        right = rest
    return left
