"""The fault of what is no book, word by word, for books of sets of makes.

A kind of book is told by `is_choice(choice)`, whether a choice has the shape;
`choices(makes)`, all choices there; `leads(makes, choice)`, where one leads; and
`coming(makes, choice, numbers)`, the number that comes with it.
"""

from helping import BIG, some_thing

WORDS = ("order", "begin", "lacks", "settled", "make", "more", "less")


def is_whole(thing):
    return type(thing) is int


def is_rising(thing, makes):
    """Whether it is a rising tuple of one or more of these makes."""
    return (
        isinstance(thing, tuple) and len(thing) > 0 and all(map(is_whole, thing))
        and all(one in makes for one in thing)
        and all(one < other for one, other in zip(thing, thing[1:])))


def is_shape(kind, among, book):
    return isinstance(book, list) and all(
        isinstance(entry, tuple) and len(entry) == 3 and is_rising(entry[0], among)
        and is_whole(entry[1]) and entry[1] >= 0 and (entry[2] is None or kind.is_choice(entry[2]))
        for entry in book)


def is_faulty(kind, word, begin, book, place):
    """Whether this word, of those behind shape, is due at this place."""
    numbers = {entry[0]: entry[1] for entry in book}
    if word == "begin":
        return begin not in numbers
    makes, number, choice = book[place]
    choices = kind.choices(makes)
    if word == "order":
        return place > 0 and not makes > book[place - 1][0]
    if word == "lacks":
        return any(one not in numbers for each in choices for one in kind.leads(makes, each))
    if not choices:
        return word == "settled" and (number, choice) != (0, None)
    if word == "settled":
        return choice is None
    if word == "make":
        return choice not in choices
    if word == "more":
        return number != kind.coming(makes, choice, numbers)
    return any(kind.coming(makes, each, numbers) < number for each in choices)


def fault_of(kind, among, begin, book):
    """The word and the place with which the book is to be refused, or None."""
    if not is_shape(kind, among, book):
        return "shape", 0
    for word in WORDS:
        for place in range(1 if word == "begin" else len(book)):
            if is_faulty(kind, word, begin, book, place):
                return word, place
    return None


def bent(chance, book, wrong_choices):
    """The book with one thing changed, by chance."""
    book = list(book)
    place = chance.randrange(len(book))
    makes, number, choice = book[place]
    change = chance.randrange(9)
    if change == 0:
        del book[place]
    elif change == 1:
        other = chance.randrange(len(book))
        book[place], book[other] = book[other], book[place]
    elif change == 2:
        book.insert(chance.randint(0, len(book)), book[place])
    elif change in (3, 4):
        numbers = [number - 1, number + 1, 0, 1, True, None, BIG, 10 ** 70 - 1]
        book[place] = (makes, chance.choice(numbers), choice)
    elif change in (5, 6):
        book[place] = (makes, number, chance.choice(wrong_choices))
    elif change == 7:
        other = [*makes, makes[-1], chance.randint(-1, 8)][chance.randint(0, 1):]
        book[place] = (tuple(other if chance.random() < 0.5 else sorted(other)), number, choice)
    else:
        book[place] = chance.choice([list(book[place]), book[place][:2], some_thing(chance, 3)])
    return book


def with_other_choice(chance, kind, begin, book):
    """The book with any choice there is for the makes, and the number that comes with that."""
    choices = kind.choices(begin)
    if not choices:
        return book
    numbers = {makes: number for makes, number, _ in book}
    choice = chance.choice(choices)
    entry = (begin, kind.coming(begin, choice, numbers), choice)
    return [entry if one[0] == begin else one for one in book]


def with_fit_choices(chance, kind, book):
    """The book with any choice, at each entry, with which the number of it comes."""
    numbers = {makes: number for makes, number, _ in book}
    other = []
    for makes, number, _ in book:
        fit = [one for one in kind.choices(makes) if kind.coming(makes, one, numbers) == number]
        other.append((makes, number, chance.choice(fit) if fit else None))
    return other


def merged(*books):
    """The book of all entries of some books."""
    entries = {entry[0]: entry for book in books for entry in book}
    return [entries[makes] for makes in sorted(entries)]
