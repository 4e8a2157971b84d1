"""Rules that need no shares: those that others keep anyway."""

from apartbook.solving import solved


def needless(book, others, rule):
    inequalities = [kept_by(book[1][other]) for other in others]
    inequalities.append(broken_by(book[1][rule]))
    answer = solved(inequalities, len(book[0]))
    if answer[0] == "point":
        return answer
    # The starts keep the others, so these alone have a point: the broken
    # rule's weight is above nought.
    return ("weights", answer[1][-1], answer[1][:-1])


def counted(book):
    places = list(range(len(book[1])))
    for rule in range(len(book[1])):
        others = [place for place in places if place != rule]
        if needless(book, others, rule)[0] == "weights":
            places = others
    return places


def kept_by(rule):
    return (rule[1], rule[2], False)


def broken_by(rule):
    return (tuple([-coefficient for coefficient in rule[1]]), -rule[2], True)
