"""Whether anything at all is a sum book of some makes."""

from badbegins.apart import tries_of
from badbegins.entrychecks import need_right, need_shape
from badbegins.kinds import is_rising_of, is_whole
from badbegins.nets import rising_of
from badbegins.steps import sides_from, sum_with


def sum_asked(net, makes, weights, book, barred=None, prices=None):
    """True, or a refusal by the first word, and the least place, that is not as told."""
    tries = tries_of(net, barred)
    all_makes = list(range(len(net)))
    need_shape(book, lambda thing: is_rising_of(all_makes, thing), is_whole)
    need_right(
        book,
        rising_of(makes),
        lambda held: sides_from(tries, held),
        lambda held, make, sums: sum_with(held, make, weights, prices, sums),
    )
    return True
