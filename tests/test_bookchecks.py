"""Points 2, 3, 22 and 23: whether anything is a book."""

import random
import unittest

from badbegins import bookchecks
from badbegins.apart import settled, useful
from badbegins.bookchecks import book_asked
from badbegins.books import book_of, number_of
from badbegins.errors import NoBook
from badbegins.stands import behind, makes_of, stand_of

from helping import BIG, Asking, full_net, great_things, line, some_makes, some_net, some_thing, within

NET = line(3)
STAND = stand_of(range(3))
BOOK = [
    (((0, 0),), 0, None),
    (((0, 0), (1, 0)), 1, 0),
    (((0, 0), (1, 0), (2, 0)), 2, 0),
    (((1, 0),), 0, None),
    (((1, 0), (2, 0)), 1, 1),
    (((2, 0),), 0, None),
]
MOST = (10, 6, 4, 3)
WORDS = ("order", "begin", "lacks", "settled", "make", "more", "less")


def is_whole(thing):
    return type(thing) is int


def is_stand(net, thing, lies):
    """Whether it is a stand of the net by 10, of one make at least."""
    if not isinstance(thing, tuple) or not thing:
        return False
    for pair in thing:
        if not isinstance(pair, tuple) or len(pair) != 2 or not all(map(is_whole, pair)):
            return False
        if pair[0] not in range(len(net)) or pair[1] not in range(lies + 1):
            return False
    return all(one[0] < other[0] for one, other in zip(thing, thing[1:]))


def is_shape(net, book, lies):
    return isinstance(book, list) and all(
        isinstance(entry, tuple) and len(entry) == 3 and is_stand(net, entry[0], lies)
        and is_whole(entry[1]) and entry[1] >= 0 and (entry[2] is None or is_whole(entry[2]))
        for entry in book)


def coming(net, stand, make, numbers, lies, prices):
    """The number that comes with the make, by the numbers of a book."""
    return (1 if prices is None else prices[make]) + max(
        numbers[behind(net, stand, make, answer, lies)] for answer in ("bad", "good"))


def is_faulty(word, net, begin, book, place, barred, lies, prices):
    """Whether this word, of those behind shape, is due at this place."""
    numbers = {entry[0]: entry[1] for entry in book}
    if word == "begin":
        return begin not in numbers
    stand, number, make = book[place]
    makes = useful(net, makes_of(stand), barred)
    if word == "order":
        return place > 0 and not stand > book[place - 1][0]
    if word == "lacks":
        return any(
            behind(net, stand, one, answer, lies) not in numbers
            for one in makes for answer in ("bad", "good"))
    if settled(net, makes_of(stand), barred):
        return word == "settled" and (number, make) != (0, None)
    if word == "settled":
        return make is None
    if word == "make":
        return make not in makes
    if word == "more":
        return number != coming(net, stand, make, numbers, lies, prices)
    return any(coming(net, stand, one, numbers, lies, prices) < number for one in makes)


def fault_of(net, begin, book, barred, lies, prices):
    """The word and the place with which the book is to be refused, or None."""
    if not is_shape(net, book, lies):
        return "shape", 0
    for word in WORDS:
        for place in range(1 if word == "begin" else len(book)):
            if is_faulty(word, net, begin, book, place, barred, lies, prices):
                return word, place
    return None


def some_case(chance):
    net = some_net(chance, 6)
    lies = chance.choice([0, 0, 0, 1, 2, 3])
    makes = sorted(set(some_makes(chance, net, 1)))[:MOST[lies]]
    barred = chance.choice([None, None, [], some_makes(chance, net)[:2]])
    prices = chance.choice([None, [chance.randint(1, 3) for _ in net]])
    return net, stand_of(makes), barred, lies, prices


def bent(chance, net, book):
    """The book with one thing changed, by chance."""
    book = list(book)
    place = chance.randrange(len(book))
    stand, number, make = book[place]
    numbers = [number - 1, number + 1, 0, 1, True, None, 10 ** 70 - 1]
    makes = [None, *range(-1, len(net) + 1), True, "0", 10 ** 70 - 1]
    change = chance.randrange(9)
    if change == 0:
        del book[place]
    elif change == 1:
        other = chance.randrange(len(book))
        book[place], book[other] = book[other], book[place]
    elif change == 2:
        book.insert(chance.randint(0, len(book)), book[place])
    elif change in (3, 4):
        book[place] = (stand, chance.choice(numbers), make)
    elif change in (5, 6):
        book[place] = (stand, number, chance.choice(makes))
    elif change == 7:
        pairs = [(one, chance.randint(0, 2)) for one, _ in stand]
        book[place] = (tuple(pairs), number, make)
    else:
        book[place] = chance.choice([list(book[place]), book[place][:2], some_thing(chance, 3)])
    return book


def with_other_make(chance, net, stand, book, barred, lies, prices):
    """The book with any useful make for the stand, and the number that comes with that."""
    numbers = {held: number for held, number, _ in book}
    makes = useful(net, makes_of(stand), barred)
    if not makes:
        return book
    make = chance.choice(makes)
    entry = (stand, coming(net, stand, make, numbers, lies, prices), make)
    return [entry if one[0] == stand else one for one in book]


class BookCase(Asking):
    def no_book(self, word, place, *given):
        self.refused(NoBook, {"word": word, "place": place}, book_asked, *given)

    def as_told(self, net, stand, book, barred, lies, prices):
        fault = fault_of(net, stand, book, barred, lies, prices)
        if fault is None:
            self.assertIs(self.told(book_asked, net, stand, book, barred, lies, prices), True)
        else:
            self.no_book(*fault, net, stand, book, barred, lies, prices)
        return fault


class RightBookTest(BookCase):
    def test_defined_here(self):
        self.assertEqual(book_asked.__module__, bookchecks.__name__)

    def test_books(self):
        self.assertIs(book_asked(NET, STAND, BOOK), True)
        self.assertIs(book_asked(NET, STAND, BOOK, None, 0, None), True)
        self.assertIs(book_asked(NET, STAND, BOOK, [], 0, [1, 1, 1]), True)
        self.assertIs(book_asked(NET, STAND, BOOK, barred=[2], prices=(1, 1, 9)), True)
        self.assertIs(book_asked(NET, STAND, BOOK, lies=0), True)

    def test_books_that_are_told(self):
        chance = random.Random(1)
        for _ in range(300):
            net, stand, barred, lies, prices = some_case(chance)
            book = book_of(net, stand, barred, lies, prices)
            self.assertIs(self.told(book_asked, net, stand, book, barred, lies, prices), True)

    def test_of_other_makes(self):
        book = list(BOOK)
        book[2] = (STAND, 2, 1)
        self.assertIs(book_asked(NET, STAND, book), True)
        book[2] = (STAND, 2, 2)
        self.no_book("make", 2, NET, STAND, book)

    def test_of_other_makes_by_chance(self):
        chance = random.Random(2)
        for _ in range(200):
            net, stand, barred, lies, prices = some_case(chance)
            book = book_of(net, stand, barred, lies, prices)
            numbers = {held: number for held, number, _ in book}
            other = []
            for held, number, make in book:
                fit = [
                    one for one in useful(net, makes_of(held), barred)
                    if coming(net, held, one, numbers, lies, prices) == number]
                other.append((held, number, chance.choice(fit) if fit else None))
            self.assertIs(book_asked(net, stand, other, barred, lies, prices), True)

    def test_with_more_stands(self):
        self.assertIs(book_asked(NET, stand_of([0, 1]), BOOK), True)
        for stand, _, _ in BOOK:
            self.assertIs(book_asked(NET, stand, BOOK), True)
        chance = random.Random(3)
        for _ in range(200):
            net, stand, barred, lies, prices = some_case(chance)
            other = stand_of(makes_of(stand)[:chance.randint(1, len(stand))][::-1])
            more = tuple((make, chance.randint(0, lies)) for make in range(min(MOST[lies], len(net))))
            entries = {}
            for one in (stand, other, more):
                for entry in book_of(net, one, barred, lies, prices):
                    entries[entry[0]] = entry
            book = [entries[one] for one in sorted(entries)]
            for one in (stand, other, more):
                self.assertIs(book_asked(net, one, book, barred, lies, prices), True)

    def test_settled_stands(self):
        self.assertIs(book_asked(NET, ((1, 0),), [(((1, 0),), 0, None)]), True)
        self.assertIs(book_asked(NET, ((1, 3),), [(((1, 3),), 0, None)], None, 3), True)
        self.assertIs(book_asked(NET, STAND, [(STAND, 0, None)], [1, 0]), True)

    def test_numbers_of_many_figures(self):
        net, prices = line(41)[:40], [10 ** 30] * 40
        book = line_book(40, 10 ** 30)
        self.assertIs(book_asked(net, stand_of(range(40)), book, None, 0, prices), True)
        for number in (10 ** 70 - 1, 0, 10 ** 30 - 1, 10 ** 30 + 1):
            worse = list(book)
            worse[1] = (worse[1][0], number, worse[1][2])
            self.no_book("more", 1, net, stand_of(range(40)), worse, None, 0, prices)


def line_book(many, cost):
    """The book of all makes of a line, each trial at this price, from halving."""
    entries = []
    for low in range(many):
        for high in range(low, many):
            stand = stand_of(range(low, high + 1))
            number = (high - low).bit_length() * cost
            make = None if low == high else low + 2 ** ((high - low).bit_length() - 1) - 1
            entries.append((stand, number, make))
    return sorted(entries, key=lambda entry: entry[0])


class GreatTest(BookCase):
    """A book is checked however many makes the stands have."""

    def test_forty_makes_without_lies(self):
        with within(120):
            for net in (line(40), full_net(40)):
                book = line_book(40, 1)
                self.assertIs(book_asked(net, stand_of(range(40)), book), True)
                place = [entry[0] for entry in book].index(stand_of(range(40)))
                self.assertEqual(book[place][1], 6)
                worse = list(book)
                worse[place] = (worse[place][0], 7, worse[place][2])
                self.no_book("more", place, net, stand_of(range(40)), worse)
                del worse[place]
                self.no_book("begin", 0, net, stand_of(range(40)), worse)
                del worse[-1]
                self.no_book("lacks", 1, line(40), stand_of([0, 1]), [book[0], book[1]])

    def test_settled_stands_of_many_makes(self):
        for lies in range(4):
            stand = tuple((make, lies) for make in range(40))
            barred = range(39)
            self.assertIs(book_asked(line(40), stand, [(stand, 0, None)], barred, lies), True)

    def test_five_makes_with_three_lies(self):
        net = line(5)
        stand = ((0, 3), (1, 3), (2, 3), (3, 3), (4, 3))
        book = [(tuple((make, 3) for make, _ in held), number, make) for held, number, make in book_of(
            net, stand_of(range(5)))]
        self.assertIs(book_asked(net, stand, book, None, 3), True)
        less = [entry for entry in book if entry[0] != ((4, 3),)]
        self.no_book("lacks", 4, net, stand, less, None, 3)


class ShapeTest(BookCase):
    def test_no_list(self):
        for thing in (None, True, False, 0, 7, BIG, "", "book", (), tuple(BOOK), (BOOK,), STAND):
            self.no_book("shape", 0, NET, STAND, thing)

    def test_no_tuples_of_three(self):
        for entry in (
            None, True, 0, "abc", (), [], [STAND, 2, 0], (STAND, 2), (STAND, 2, 0, 0), (STAND,), STAND,
        ):
            self.wrong_entry(entry)

    def test_no_stand(self):
        for stand in (
            None, True, 0, "", (), [], [(0, 0)], ((0, 0), (0, 0)), ((1, 0), (0, 0)), ((0, 0), [1, 0]),
            ((0, 0, 0),), ((0,),), (0, 0), ((0, 0), 1), ((0, 0), None), ((-1, 0),), ((3, 0),), ((BIG, 0),),
            ((0, -1),), ((0, 1),), ((0, BIG),), ((True, 0),), ((0, False),), ((False, 0),), (("0", 0),),
            ((0, None),), ((0, "0"),), ((0, 0), (2, 0), (1, 0)), ((0, 0), (1, 0), (1, 1)), ((),),
            (((0, 0),),),
        ):
            self.wrong_entry((stand, 0, None))

    def test_no_number(self):
        for number in (-1, -BIG, None, True, False, "0", "", (), (0,), [0]):
            self.wrong_entry((((0, 0),), number, None))

    def test_no_make(self):
        for make in (True, False, "0", "", (), (0,), [0]):
            self.wrong_entry((STAND, 2, make))

    def test_against_goes_to_the_lies(self):
        for lies in range(4):
            self.assertIs(book_asked(NET, ((0, lies),), [(((0, lies),), 0, None)], None, lies), True)
            self.no_book("shape", 0, NET, ((0, 0),), [
                (((0, 0),), 0, None), (((0, lies + 1),), 0, None)], None, lies)
        self.no_book("shape", 0, NET, ((0, 0),), [(((0, 0),), 0, None), (((0, 1),), 0, None)])

    def test_it_goes_ahead_of_all_else_with_place_nought(self):
        self.no_book("shape", 0, NET, STAND, BOOK[::-1] + [None])
        self.no_book("shape", 0, NET, STAND, [(((0, 0),), 5, 7)] * 3 + [(STAND, -1, 0)])

    def wrong_entry(self, entry):
        with self.subTest(entry):
            for place in range(len(BOOK) + 1):
                self.no_book("shape", 0, NET, STAND, BOOK[:place] + [entry] + BOOK[place:])
            self.no_book("shape", 0, NET, STAND, [entry])

    def test_anything_at_all(self):
        chance = random.Random(4)
        for _ in range(2000):
            self.as_told(NET, STAND, some_thing(chance, 5), None, 0, None)
        with within(60):
            for thing in great_things():
                for book in (thing, [thing], [(thing, 0, None)], [(STAND, thing, 0)], [(STAND, 2, thing)],
                             [(((0, 0), thing), 0, None)], [(((0, thing),), 0, None)], BOOK + [thing]):
                    self.as_told(NET, STAND, book, None, 0, None)


class WordsTest(BookCase):
    def test_without_entries(self):
        self.no_book("begin", 0, NET, STAND, [])
        self.no_book("begin", 0, NET, ((0, 0),), [])

    def test_order(self):
        for place in range(1, len(BOOK)):
            swapped = list(BOOK)
            swapped[place - 1], swapped[place] = BOOK[place], BOOK[place - 1]
            self.no_book("order", place, NET, STAND, swapped)
            self.no_book("order", place, NET, STAND, BOOK[:place] + BOOK[place - 1:])
            other = (BOOK[place - 1][0], 9, 9)
            self.no_book("order", place, NET, STAND, BOOK[:place] + [other] + BOOK[place:])
        self.no_book("order", 1, NET, STAND, BOOK[::-1])

    def test_begin(self):
        for stand, _, _ in BOOK[:2] + BOOK[3:]:
            self.no_book("begin", 0, NET, STAND, [
                entry for entry in book_of(NET, stand) if entry[0] != STAND])
        self.no_book("begin", 0, NET, ((0, 0), (2, 0)), BOOK)
        self.no_book("begin", 0, NET, ((0, 1),), BOOK, None, 1)

    def test_lacks(self):
        for gone, place in ((0, 0), (1, 1), (3, 1), (4, 2), (5, 2)):
            self.no_book("lacks", place, NET, STAND, BOOK[:gone] + BOOK[gone + 1:])
        # A stand to which a make leads that is not the entry's own.
        self.no_book("lacks", 1, NET, STAND, [
            BOOK[0], BOOK[2], BOOK[3], BOOK[4], BOOK[5]])

    def test_settled(self):
        for place in (0, 3, 5):
            stand = BOOK[place][0]
            for number, make in ((1, None), (0, 0), (0, 1), (BIG, None), (3, 2), (0, -1), (0, 9)):
                self.no_book("settled", place, NET, STAND, changed(place, (stand, number, make)))
        for place in (1, 2, 4):
            stand, number, _ = BOOK[place]
            for other in (number, 0, 7):
                self.no_book("settled", place, NET, STAND, changed(place, (stand, other, None)))

    def test_make(self):
        for place, makes in ((1, (1, 2)), (2, (2,)), (4, (0, 2))):
            stand, number, _ = BOOK[place]
            for make in (*makes, -1, -3, 3, 40, BIG, -BIG):
                for other in (number, 0, 8):
                    self.no_book("make", place, NET, STAND, changed(place, (stand, other, make)))
        barred = book_of(line(4), stand_of(range(4)), [1])
        place = [entry[0] for entry in barred].index(stand_of(range(4)))
        barred[place] = (stand_of(range(4)), 2, 1)
        self.no_book("make", place, line(4), stand_of(range(4)), barred, [1])

    def test_more(self):
        # The number of entry 4 is one from which that of entry 2, ahead of it, comes.
        for place, least in ((1, 1), (2, 2), (4, 2)):
            stand, number, make = BOOK[place]
            for other in (number - 1, number + 1, number + 2, BIG, 10 ** 70 - 1):
                self.no_book("more", least, NET, STAND, changed(place, (stand, other, make)))
        self.no_book("more", 1, NET, stand_of([1, 2]), [
            (((1, 0),), 0, None), (stand_of([1, 2]), 0, 1), (((2, 0),), 0, None)])

    def test_less(self):
        net = line(4)
        stand = stand_of(range(4))
        book = book_of(net, stand)
        place = [entry[0] for entry in book].index(stand)
        self.assertEqual(book[place], (stand, 2, 1))
        for make in (0, 2):
            book[place] = (stand, 3, make)
            self.no_book("less", place, net, stand, book)
        book[place] = (stand, 3, 1)
        self.no_book("more", place, net, stand, book)

    def test_less_by_prices(self):
        book = book_of(NET, STAND, None, 0, [3, 1, 1])
        self.assertEqual(book[2], (STAND, 4, 0))
        self.assertIs(book_asked(NET, STAND, book, None, 0, [3, 1, 1]), True)
        book[2] = (STAND, 4, 1)
        self.assertIs(book_asked(NET, STAND, book, None, 0, [3, 1, 1]), True)
        self.no_book("more", 1, NET, STAND, book)
        self.no_book("more", 2, NET, STAND, book, None, 0, [3, 2, 1])
        self.no_book("more", 1, NET, STAND, BOOK, None, 0, [2, 1, 1])

    def test_with_lies(self):
        net, stand = line(2), stand_of([0, 1])
        book = book_of(net, stand, None, 1)
        self.assertIs(book_asked(net, stand, book, None, 1), True)
        self.no_book("shape", 0, net, stand, book)
        self.no_book("lacks", 2, net, stand, book, None, 2)
        for place in (0, 3, 6, 7):
            less = book[:place] + book[place + 1:]
            self.assertEqual(self.as_told(net, stand, less, None, 1, None)[0], "lacks")

    def test_the_first_word_and_of_like_words_the_least_place(self):
        chance = random.Random(5)
        found = {}
        for _ in range(2000):
            net, stand, barred, lies, prices = some_case(chance)
            book = book_of(net, stand, barred, lies, prices)
            if chance.random() < 0.3:
                book = with_other_make(chance, net, stand, book, barred, lies, prices)
            for _ in range(chance.randint(0, 3)):
                if book:
                    book = bent(chance, net, book)
                    if not is_shape(net, book, lies):
                        break
            fault = self.as_told(net, stand, book, barred, lies, prices)
            found[fault and fault[0]] = found.get(fault and fault[0], 0) + 1
        for word in (None, "shape", *WORDS):
            self.assertGreater(found.get(word, 0), 10, word)

    def test_books_for_other_askings(self):
        chance = random.Random(6)
        for _ in range(200):
            net, stand, barred, lies, prices = some_case(chance)
            book = book_of(net, stand, barred, lies, prices)
            other = [chance.randint(1, 3) for _ in net]
            self.as_told(net, stand, book, None, lies, prices)
            self.as_told(net, stand, book, barred, lies, other)
            self.as_told(net, stand, book, some_makes(chance, net)[:2], lies, prices)
            self.as_told(net, stand, book, barred, min(3, lies + 1), prices)
            self.as_told(net, stand_of(some_makes(chance, net, 1)), book, barred, lies, prices)


class LeastTest(BookCase):
    """Whatever is let by tells each of its stands' numbers."""

    def test_books_with_other_numbers(self):
        chance = random.Random(7)
        let_by = 0
        for _ in range(1200):
            net, stand, barred, lies, prices = some_case(chance)
            book = []
            shift = chance.choice([0, 0, 1])
            for held, number, make in book_of(net, stand, barred, lies, prices):
                makes = useful(net, makes_of(held), barred)
                if makes:
                    number += shift
                    make = chance.choice([make, make, *makes])
                book.append((held, number, make))
            try:
                self.assertIs(book_asked(net, stand, book, barred, lies, prices), True)
            except NoBook:
                continue
            let_by += 1
            for held, number, _ in book:
                self.assertEqual(number, number_of(net, held, barred, lies, prices))
        self.assertGreater(let_by, 200)


def changed(place, entry):
    """The book with another entry at the place."""
    return BOOK[:place] + [entry] + BOOK[place + 1:]


if __name__ == "__main__":
    unittest.main()
