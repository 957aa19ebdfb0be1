"""Weights: what plans spend in all, where badness began at each make so often."""

from badbegins.apart import tries_of
from badbegins.errors import TooGreat
from badbegins.nets import rising_of
from badbegins.plans import price_of
from badbegins.reckoning import book_by, plan_by, reckoned
from badbegins.steps import sides_from, sum_with, weight_of

MOST_MAKES = 10


def sum_of(plan, weights, prices=None):
    """What the plan spends in all by these weights."""
    return _sum_behind(plan, weights, prices, 0)


def sum_book(net, makes, weights, barred=None, prices=None):
    """The sum book of the makes: entries of makes, their least sum and a make, sorted."""
    return book_by(_reckoned_from(net, rising_of(makes), weights, barred, prices))


def least_sum(net, makes, weights, barred=None, prices=None):
    """The least sum of all plans for the makes."""
    rising = rising_of(makes)
    return _reckoned_from(net, rising, weights, barred, prices)[rising][0]


def sum_plan(net, makes, weights, barred=None, prices=None):
    """The plan that tries at each set of makes the make of the sum book."""
    rising = rising_of(makes)
    entries = _reckoned_from(net, rising, weights, barred, prices)
    return plan_by(entries, rising, lambda held: held)


def _sum_behind(plan, weights, prices, spent):
    if plan[0] == "left":
        return spent * weight_of(plan[1], weights)
    _, make, bad, good = plan
    spent_now = spent + price_of(make, prices)
    return _sum_behind(bad, weights, prices, spent_now) + _sum_behind(good, weights, prices, spent_now)


def _reckoned_from(net, makes, weights, barred, prices):
    tries = tries_of(net, barred)
    if len(makes) > MOST_MAKES and sides_from(tries, makes):
        raise TooGreat(len(makes))
    return reckoned(
        makes,
        lambda held: sides_from(tries, held),
        lambda held, make, sums: sum_with(held, make, weights, prices, sums),
    )
