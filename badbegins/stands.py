"""Stands: the makes that are possible, and how many trials speak against each."""

from badbegins.errors import NoTruth
from badbegins.heirs import elders_of
from badbegins.nets import rising_of
from badbegins.trials import against


def known(net, trials, lies=0):
    """The stand that these trials leave, if at most so many of them lie."""
    rows = [against(net, trials, make) for make in range(len(net))]
    stand = tuple([(make, len(row)) for make, row in enumerate(rows) if len(row) <= lies])
    if not stand:
        raise NoTruth([row[:lies + 1] for row in rows])
    return stand


def behind(net, stand, make, answer, lies=0):
    """The stand to which the stand comes by this answer at the make."""
    elders = elders_of(net, make)
    if answer == "cannot":
        return tuple(stand)
    return behind_by(elders, stand, answer, lies)


def makes_of(stand):
    """The makes of the stand, rising."""
    return tuple([make for make, _ in stand])


def stand_of(makes):
    """The stand of these makes with no trial against any."""
    return tuple([(make, 0) for make in rising_of(makes)])


def behind_by(elders, stand, answer, lies):
    """The stand behind "bad" or "good" at a make that comes of these elders."""
    # "good" speaks against those of which the tried make comes, "bad" against the others.
    spared = answer == "bad"
    counted = [(make, many if (make in elders) == spared else many + 1) for make, many in stand]
    return tuple([(make, many) for make, many in counted if many <= lies])
