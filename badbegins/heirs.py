"""Which makes come of which, and by what way.

Elders have lesser numbers than the make itself, so one pass through the
numbers goes to each make once, however many ways lead there.
"""

from badbegins.nets import need_makes


def comes_of(net, young, old):
    """Whether the young make comes of the old one."""
    need_makes(net, [young, old])
    return old in elders_of(net, young)


def elders_of(net, make):
    """All makes of which the make comes, itself too, rising."""
    need_makes(net, [make])
    found = {make}
    for young in range(make, -1, -1):
        if young in found:
            for elder in net[young]:
                found.add(elder)
    return tuple(sorted(found))


def heirs_of(net, make):
    """All makes that come of the make, itself too, rising."""
    need_makes(net, [make])
    found = {make}
    for young in range(make + 1, len(net)):
        if any([elder in found for elder in net[young]]):
            found.add(young)
    return tuple(sorted(found))


def way_to(net, young, old):
    """A shortest list of makes from the young one by elders to the old one, or None."""
    need_makes(net, [young, old])
    ways = {old: [old]}
    for make in range(old + 1, young + 1):
        onward = [ways[elder] for elder in net[make] if elder in ways]
        if onward:
            ways[make] = [make] + min(onward, key=len)
    return ways.get(young)
