"""Rounds: several makes tried at once, without lies."""

from badbegins.apart import tries_of, useful
from badbegins.errors import TooGreat
from badbegins.nets import rising_of
from badbegins.reckoning import book_by, reckoned
from badbegins.steps import rounds_from, rounds_with, split_by

MOST_MAKES = 6
MOST_USEFUL = 10


def split(net, makes, tried):
    """Each row of answers at the tried ones by which some makes are left, with these."""
    return split_by(tries_of(net, None), rising_of(makes), tried)


def round_book(net, makes, width, barred=None):
    """The round book of the makes: entries of makes, their rounds and the tried ones, sorted."""
    return book_by(_reckoned_from(net, rising_of(makes), width, barred))


def rounds_of(net, makes, width, barred=None):
    """How many rounds the makes have."""
    rising = rising_of(makes)
    return _reckoned_from(net, rising, width, barred)[rising][0]


def round_plan(net, makes, width, barred=None):
    """The round plan that tries at each set of makes what the round book tells."""
    rising = rising_of(makes)
    entries = _reckoned_from(net, rising, width, barred)
    return _plan_by_entries(entries, tries_of(net, barred), rising)


def depth_of(plan):
    """How many rounds of the plan stand within one another at most."""
    if plan[0] == "left":
        return 0
    _, _, rows = plan
    return 1 + max([depth_of(part) for _, part in rows])


def _plan_by_entries(entries, tries, makes):
    _, tried, _ = entries[makes]
    if tried is None:
        return ("left", makes)
    rows = [
        (answers, _plan_by_entries(entries, tries, left))
        for answers, left in split_by(tries, makes, tried)
    ]
    return ("round", tried, tuple(rows))


def _reckoned_from(net, makes, width, barred):
    found = useful(net, makes, barred)
    if found and len(makes) > MOST_MAKES:
        raise TooGreat(len(makes))
    if len(found) > MOST_USEFUL:
        raise TooGreat(len(found))
    tries = tries_of(net, barred)
    return reckoned(
        makes,
        lambda held: rounds_from(tries, held, width),
        lambda held, tried, rounds: rounds_with(rounds),
    )
