"""Nets of makes: made of rows of elders, and renumbered by an order."""

from badbegins.errors import NoMake, NoNet, NoOrder

MOST_MAKES = 40


def net_of(rows):
    """The net whose makes have these elders."""
    if not 1 <= len(rows) <= MOST_MAKES:
        raise NoNet(-1)
    for make, elders in enumerate(rows):
        if not _can_be_elders(elders, make):
            raise NoNet(make)
    return tuple([tuple(sorted(elders)) for elders in rows])


def renumbered(net, order):
    """The net in which the make at each place of the order has that place as its number."""
    places = _places_by_make(net, order)
    return tuple([_row_by_places(net[make], places) for make in order])


def rising_of(makes):
    """The makes as a rising tuple, each once."""
    return tuple(sorted(set(makes)))


def is_make(net, make):
    """Whether the number is one of the net's makes."""
    return 0 <= make < len(net)


def need_makes(net, makes):
    """Refuse the first of these numbers that is no make of the net."""
    for make in makes:
        if not is_make(net, make):
            raise NoMake(make)


def _can_be_elders(elders, make):
    if len(set(elders)) < len(elders):
        return False
    return all([0 <= elder < make for elder in elders])


def _places_by_make(net, order):
    places = {}
    for place, make in enumerate(order):
        if not _can_stand_next(net, make, places):
            raise NoOrder(place)
        places[make] = place
    # A longer order needs no such test: behind all makes none can stand.
    if len(order) < len(net):
        raise NoOrder(len(order))
    return places


def _can_stand_next(net, make, places):
    if not is_make(net, make) or make in places:
        return False
    return all([elder in places for elder in net[make]])


def _row_by_places(elders, places):
    return tuple(sorted([places[elder] for elder in elders]))
