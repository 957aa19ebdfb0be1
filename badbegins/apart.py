"""What trials can tell apart: sides, useful makes, makes that are alike."""

from badbegins.heirs import elders_of, heirs_of
from badbegins.nets import need_makes, rising_of


def sides(net, makes, make):
    """Those of the makes of which the make comes, and the others, both rising."""
    return _sides_by(elders_of(net, make), rising_of(makes))


def parts(net, makes, make):
    """Whether the make comes of some of the makes and not of others."""
    bad, good = sides(net, makes, make)
    return len(bad) > 0 and len(good) > 0


def useful(net, makes, barred=None):
    """All makes of the net that are not barred and part the makes, rising."""
    return [make for make, _, _ in useful_sides(tries_of(net, barred), makes)]


def parting(net, one, other, barred=None):
    """The least make not barred that comes of just one of both, or None."""
    need_makes(net, [one, other])
    found = useful(net, [one, other], barred)
    return found[0] if found else None


def classes(net, makes, barred=None):
    """The makes that are alike, as rising tuples, by their least makes."""
    tries = tries_of(net, barred)
    alike = {}
    for make in rising_of(makes):
        tellers = tuple([heir for heir in heirs_of(net, make) if heir in tries])
        alike.setdefault(tellers, []).append(make)
    return [tuple(row) for row in alike.values()]


def settled(net, makes, barred=None):
    """Whether all of the makes are alike."""
    return len(classes(net, makes, barred)) <= 1


def tries_of(net, barred):
    """For each make that is not barred, rising, a table of the makes of which it comes."""
    shut = set(barred or [])
    free = [make for make in range(len(net)) if make not in shut]
    return {make: {elder: True for elder in elders_of(net, make)} for make in free}


def useful_sides(tries, makes):
    """Each make to try that parts the makes, rising, with both sides of them."""
    rising = rising_of(makes)
    found = []
    for make, elders in tries.items():
        bad, good = _sides_by(elders, rising)
        if bad and good:
            found.append((make, bad, good))
    return found


def _sides_by(elders, rising):
    bad = tuple([make for make in rising if make in elders])
    good = tuple([make for make in rising if make not in elders])
    return bad, good
