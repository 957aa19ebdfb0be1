"""Checks that all books have in common: of entries (thing, number, choice).

Things and choices are those of badbegins.reckoning.
"""

from badbegins.errors import NoBook
from badbegins.kinds import is_whole


def need_shape(book, is_thing, is_choice):
    """Refuse what is no list of entries by these tests of things and of choices."""
    if not isinstance(book, list) or not all([_is_entry(row, is_thing, is_choice) for row in book]):
        raise NoBook("shape", 0)


def need_right(book, begin, choices_of, number_by):
    """Refuse a book whose entries are not those from the first thing on, with least numbers."""
    _need_order(book)
    numbers = {thing: number for thing, number, _ in book}
    if begin not in numbers:
        raise NoBook("begin", 0)
    coming = []
    for place, (thing, _, _) in enumerate(book):
        choices = choices_of(thing)
        if not _are_all_in(numbers, choices):
            raise NoBook("lacks", place)
        coming.append(_coming_numbers(thing, choices, numbers, number_by))
    _need_each("settled", book, coming, _is_settled_right)
    # From here on just settled things have None for their choice, and these are right.
    _need_each("make", book, coming, _is_choice_there)
    _need_each("more", book, coming, _is_number_coming)
    _need_each("less", book, coming, _is_number_least)


def _is_entry(row, is_thing, is_choice):
    if not isinstance(row, tuple) or len(row) != 3:
        return False
    thing, number, choice = row
    if not is_whole(number) or number < 0:
        return False
    return is_thing(thing) and (choice is None or is_choice(choice))


def _need_order(book):
    for place in range(1, len(book)):
        if book[place][0] <= book[place - 1][0]:
            raise NoBook("order", place)


def _are_all_in(numbers, choices):
    return all([thing in numbers for _, things in choices for thing in things])


def _coming_numbers(thing, choices, numbers, number_by):
    """For each choice the number that comes with it, by the numbers of the book."""
    return {
        choice: number_by(thing, choice, [numbers[one] for one in things])
        for choice, things in choices
    }


def _need_each(word, book, coming, is_right):
    for place, (_, number, choice) in enumerate(book):
        if not is_right(number, choice, coming[place]):
            raise NoBook(word, place)


def _is_settled_right(number, choice, coming):
    if coming:
        return choice is not None
    return number == 0 and choice is None


def _is_choice_there(number, choice, coming):
    return choice is None or choice in coming


def _is_number_coming(number, choice, coming):
    return choice is None or number == coming[choice]


def _is_number_least(number, choice, coming):
    return choice is None or number <= min(coming.values())
