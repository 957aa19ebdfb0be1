"""Of which kind a thing is, where anything may be handed in."""


def is_whole(thing):
    """Whether it is a whole number; truths are none."""
    return isinstance(thing, int) and not isinstance(thing, bool)


def is_whole_tuple(thing):
    """Whether it is a tuple of whole numbers."""
    return isinstance(thing, tuple) and all([is_whole(one) for one in thing])
