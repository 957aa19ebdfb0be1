"""Trials: which makes they speak against, and which answers are true."""

from badbegins.errors import NoTrial
from badbegins.heirs import comes_of, heirs_of
from badbegins.nets import is_make, need_makes, rising_of

ANSWERS = ("bad", "good", "cannot")


def speaks_against(net, trial, make):
    """Whether the trial would be a lie, were badness begun at the make."""
    return against(net, [trial], make) == [0]


def against(net, trials, make):
    """The places of the trials that speak against the make, rising."""
    need_trials(net, trials)
    heirs = heirs_of(net, make)
    return [place for place, (tried, answer) in enumerate(trials) if answer == _lie(tried in heirs)]


def true_answer(net, first, make):
    """The answer at the make, where badness began at the first one and nothing lies."""
    need_makes(net, [first, make])
    return "bad" if comes_of(net, make, first) else "good"


def barred_by(net, trials):
    """The makes that some of the trials tell to be such as can't be tried, rising."""
    need_trials(net, trials)
    return rising_of([make for make, answer in trials if answer == "cannot"])


def need_trials(net, trials):
    """Refuse the first of these that is no trial by the net."""
    for place, (make, answer) in enumerate(trials):
        if not is_make(net, make) or answer not in ANSWERS:
            raise NoTrial(place)


def _lie(is_heir):
    return "good" if is_heir else "bad"
