"""Halving: trying what parts the makes that are left most evenly."""

from badbegins.apart import tries_of, useful_sides
from badbegins.nets import rising_of


def halving_make(net, makes, barred=None):
    """The least of the useful makes with the greatest lesser side, or None."""
    halved = _halved(tries_of(net, barred), makes)
    return None if halved is None else halved[0]


def halving_plan(net, makes, barred=None):
    """The plan for these makes that tries the halving make of what is left."""
    return _plan_by_halves(tries_of(net, barred), rising_of(makes))


def _halved(tries, makes):
    # Of several greatest ones max takes the first, so the least make.
    return max(useful_sides(tries, makes), key=_lesser_size, default=None)


def _lesser_size(row):
    _, bad, good = row
    return min(len(bad), len(good))


def _plan_by_halves(tries, makes):
    halved = _halved(tries, makes)
    if halved is None:
        return ("left", makes)
    make, bad, good = halved
    return ("try", make, _plan_by_halves(tries, bad), _plan_by_halves(tries, good))
