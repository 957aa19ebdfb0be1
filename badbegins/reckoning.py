"""Reckoning least numbers, each thing that comes up once.

A thing is a stand, or whatever else choices lead on from; its choices are a
list of pairs, a choice and the things to which it may lead. Where there are
none the number of the thing is 0.
"""


def reckoned(begin, choices_of, number_by):
    """For the first thing and all that come up behind it: number, choice, and where that leads."""
    entries = {}
    _reckon(entries, begin, choices_of, number_by)
    return entries


def book_by(entries):
    """The book of what is reckoned."""
    return sorted([(thing, number, choice) for thing, (number, choice, _) in entries.items()])


def plan_by(entries, thing, makes_by):
    """The plan that tries at each thing the make reckoned; makes_by tells a thing's makes."""
    _, make, behind = entries[thing]
    if make is None:
        return ("left", makes_by(thing))
    bad, good = behind
    return ("try", make, plan_by(entries, bad, makes_by), plan_by(entries, good, makes_by))


def _reckon(entries, thing, choices_of, number_by):
    if thing not in entries:
        ways = []
        for choice, things in choices_of(thing):
            numbers = [_reckon(entries, one, choices_of, number_by) for one in things]
            ways.append((number_by(thing, choice, numbers), choice, things))
        # Of several least ones min takes the first, as the choices are told.
        entries[thing] = min(ways, key=lambda way: way[0], default=(0, None, ()))
    return entries[thing][0]
