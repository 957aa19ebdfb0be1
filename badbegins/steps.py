"""Where trials of useful makes lead from a stand, and what they cost."""

from badbegins.apart import useful_sides
from badbegins.plans import price_of
from badbegins.stands import behind_by, makes_of


def steps_from(tries, stand, lies):
    """Each useful make, rising, with the stands behind it with "bad" and with "good"."""
    steps = []
    for make, _, _ in useful_sides(tries, makes_of(stand)):
        bad = behind_by(tries[make], stand, "bad", lies)
        good = behind_by(tries[make], stand, "good", lies)
        steps.append((make, (bad, good)))
    return steps


def number_with(make, prices, numbers):
    """The number that comes with the make, by the numbers behind it."""
    return price_of(make, prices) + max(numbers)
