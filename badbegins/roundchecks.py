"""Whether anything at all is a round book of some makes."""

from badbegins.apart import tries_of
from badbegins.entrychecks import need_right, need_shape
from badbegins.kinds import is_rising_of, is_whole_tuple
from badbegins.nets import rising_of
from badbegins.steps import rounds_from, rounds_with


def rounds_asked(net, makes, width, book, barred=None):
    """True, or a refusal by the first word, and the least place, that is not as told."""
    tries = tries_of(net, barred)
    begin = rising_of(makes)
    need_shape(book, lambda thing: is_rising_of(begin, thing), is_whole_tuple)
    need_right(
        book,
        begin,
        lambda held: rounds_from(tries, held, width),
        lambda held, tried, rounds: rounds_with(rounds),
    )
    return True
