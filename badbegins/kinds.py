"""Of which kind a thing is, where anything may be handed in."""

from badbegins.nets import rising_of


def is_whole(thing):
    """Whether it is a whole number; truths are none."""
    return isinstance(thing, int) and not isinstance(thing, bool)


def is_whole_tuple(thing):
    """Whether it is a tuple of whole numbers."""
    return isinstance(thing, tuple) and all([is_whole(one) for one in thing])


def is_rising_of(makes, thing):
    """Whether it is a rising tuple of one or more of these makes."""
    if not is_whole_tuple(thing) or len(thing) == 0:
        return False
    return thing == rising_of(thing) and all([make in makes for make in thing])
