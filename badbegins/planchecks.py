"""Whether anything at all is a plan for a stand."""

from badbegins.apart import tries_of, useful_sides
from badbegins.errors import NoPlan
from badbegins.kinds import is_whole, is_whole_tuple
from badbegins.nets import is_make
from badbegins.stands import behind_by, makes_of


def plan_asked(net, stand, plan, barred=None, lies=0):
    """True, or a refusal by the first place that is not as a plan for the stand."""
    tries = tries_of(net, barred)
    todo = [((), stand, plan)]
    while todo:
        path, held, part = todo.pop()
        word = _fault(net, tries, makes_of(held), part)
        if word is not None:
            raise NoPlan(path, word)
        if part[0] == "try":
            _, make, bad, good = part
            # The last is taken first: the bad one with all within, then the good one.
            todo.append(((*path, "good"), behind_by(tries[make], held, "good", lies), good))
            todo.append(((*path, "bad"), behind_by(tries[make], held, "bad", lies), bad))
    return True


def _fault(net, tries, makes, part):
    if _is_left(part):
        return _fault_of_left(tries, makes, part[1])
    if _is_try(part):
        return _fault_of_try(net, tries, makes, part[1])
    return "shape"


def _is_left(part):
    return isinstance(part, tuple) and len(part) == 2 and part[0] == "left" and is_whole_tuple(part[1])


def _is_try(part):
    return isinstance(part, tuple) and len(part) == 4 and part[0] == "try" and is_whole(part[1])


def _fault_of_left(tries, makes, left):
    if useful_sides(tries, makes):
        return "open"
    return None if left == makes else "left"


def _fault_of_try(net, tries, makes, make):
    if not is_make(net, make):
        return "make"
    if make not in tries:
        return "barred"
    if not useful_sides({make: tries[make]}, makes):
        return "useless"
    return None
