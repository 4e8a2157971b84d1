"""What there is to spare, dealt to houses by weights."""


def dealt(number, weights):
    total = sum(weights)
    shares = [number * weight // total for weight in weights]
    rests = [number * weight % total for weight in weights]
    # Sorting keeps the order of like ones, so of these the lesser house leads.
    by_rest = sorted(range(len(weights)), key=lambda house: -rests[house])
    for house in by_rest[:number - sum(shares)]:
        shares[house] += 1
    return shares
