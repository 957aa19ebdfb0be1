"""Whether anything at all is a book of a stand."""

from badbegins.apart import tries_of
from badbegins.entrychecks import need_right, need_shape
from badbegins.kinds import is_whole
from badbegins.nets import is_make, rising_of
from badbegins.stands import makes_of
from badbegins.steps import number_with, steps_from


def book_asked(net, stand, book, barred=None, lies=0, prices=None):
    """True, or a refusal by the first word, and the least place, that is not as told."""
    tries = tries_of(net, barred)
    need_shape(book, lambda thing: _is_stand(net, thing, lies), is_whole)
    need_right(
        book,
        stand,
        lambda held: steps_from(tries, held, lies),
        lambda held, make, numbers: number_with(make, prices, numbers),
    )
    return True


def _is_stand(net, thing, lies):
    if not isinstance(thing, tuple) or len(thing) == 0:
        return False
    if not all([_is_pair(net, pair, lies) for pair in thing]):
        return False
    makes = makes_of(thing)
    return makes == rising_of(makes)


def _is_pair(net, pair, lies):
    if not isinstance(pair, tuple) or len(pair) != 2:
        return False
    make, many = pair
    return is_whole(make) and is_whole(many) and is_make(net, make) and 0 <= many <= lies
