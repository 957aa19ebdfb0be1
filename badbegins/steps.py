"""Where trials of useful makes lead, and what they cost: from stands, sets of makes, by rounds."""

from itertools import combinations

from badbegins.apart import useful_sides
from badbegins.plans import price_of
from badbegins.stands import behind_by, makes_of


def steps_from(tries, stand, lies):
    """Each useful make, rising, with the stands behind it with "bad" and with "good"."""
    steps = []
    for make, _, _ in useful_sides(tries, makes_of(stand)):
        bad = behind_by(tries[make], stand, "bad", lies)
        good = behind_by(tries[make], stand, "good", lies)
        steps.append((make, (bad, good)))
    return steps


def number_with(make, prices, numbers):
    """The number that comes with the make, by the numbers behind it."""
    return price_of(make, prices) + max(numbers)


def sides_from(tries, makes):
    """Each useful make, rising, with both sides of the makes."""
    return [(make, (bad, good)) for make, bad, good in useful_sides(tries, makes)]


def sum_with(makes, make, weights, prices, sums):
    """The sum of the makes that comes with the make, by the sums of both sides."""
    return price_of(make, prices) * weight_of(makes, weights) + sum(sums)


def weight_of(makes, weights):
    """The weights of the makes together, each as often as it stands there."""
    return sum([weights[make] for make in makes])


def rounds_from(tries, makes, width):
    """All that may be tried in a round, fewest and least first, each with what may be left."""
    found = [make for make, _, _ in useful_sides(tries, makes)]
    return [
        (tried, [left for _, left in split_by(tries, makes, tried)])
        for size in range(1, width + 1)
        for tried in combinations(found, size)
    ]


def rounds_with(rounds):
    """The rounds that come with a round, by those of what may be left."""
    return 1 + max(rounds)


def split_by(tries, makes, tried):
    """Each row of true answers at the tried ones, sorted, with those of the makes that give it."""
    rows = {}
    for make in makes:
        answers = tuple(["bad" if make in tries[one] else "good" for one in tried])
        rows.setdefault(answers, []).append(make)
    return [(answers, tuple(row)) for answers, row in sorted(rows.items())]
