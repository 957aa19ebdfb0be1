"""Books: the least number of each stand to which trials can lead, and a make for it."""

from badbegins.apart import tries_of
from badbegins.errors import TooGreat
from badbegins.reckoning import book_by, plan_by, reckoned
from badbegins.stands import makes_of
from badbegins.steps import number_with, steps_from

# How many makes can be reckoned, by how many lies.
MOST_BY_LIES = (10, 6, 4, 3)


def book_of(net, stand, barred=None, lies=0, prices=None):
    """The book of the stand: entries of a stand, its number and its make, sorted."""
    return book_by(_reckoned_from(net, stand, barred, lies, prices))


def number_of(net, stand, barred=None, lies=0, prices=None):
    """The least worst of all plans for the stand."""
    return _reckoned_from(net, stand, barred, lies, prices)[stand][0]


def best_make(net, stand, barred, lies, prices):
    """The make that the book tells for the stand, or None."""
    return _reckoned_from(net, stand, barred, lies, prices)[stand][1]


def best_plan(net, stand, barred=None, lies=0, prices=None):
    """The plan that tries at each stand the make of the book."""
    return plan_by(_reckoned_from(net, stand, barred, lies, prices), stand, makes_of)


def _reckoned_from(net, stand, barred, lies, prices):
    tries = tries_of(net, barred)
    if len(stand) > MOST_BY_LIES[lies] and steps_from(tries, stand, lies):
        raise TooGreat(len(stand))
    return reckoned(
        stand,
        lambda held: steps_from(tries, held, lies),
        lambda held, make, numbers: number_with(make, prices, numbers),
    )
