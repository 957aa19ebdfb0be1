"""Points 2, 3, 13, 23 and 26: whether anything is a sum book."""

import random
import unittest

from badbegins import sumchecks
from badbegins.apart import sides, useful
from badbegins.errors import NoBook
from badbegins.sumchecks import sum_asked
from badbegins.weights import least_sum, sum_book

from faults import (
    WORDS, bent, fault_of, is_rising, is_shape, is_whole, merged, with_fit_choices, with_other_choice,
)
from helping import BIG, Asking, full_net, great_things, line, some_makes, some_net, some_thing, within

NET = line(3)
MAKES = (0, 1, 2)
ONES = [1, 1, 1]
BOOK = [
    ((0,), 0, None),
    ((0, 1), 2, 0),
    ((0, 1, 2), 5, 0),
    ((1,), 0, None),
    ((1, 2), 2, 1),
    ((2,), 0, None),
]


class SumKind:
    """What the books are by these weights, barred ones and prices."""

    def __init__(self, net, weights, barred, prices):
        self.net, self.weights, self.barred, self.prices = net, weights, barred, prices

    def is_choice(self, choice):
        return is_whole(choice)

    def choices(self, makes):
        return useful(self.net, makes, self.barred)

    def leads(self, makes, make):
        return sides(self.net, makes, make)

    def coming(self, makes, make, numbers):
        price = 1 if self.prices is None else self.prices[make]
        return price * sum(self.weights[one] for one in makes) + sum(
            numbers[side] for side in self.leads(makes, make))


def some_case(chance):
    net = some_net(chance, 6)
    weights = [chance.choice([0, 0, 1, 1, 2, 10 ** 30]) for _ in net]
    barred = chance.choice([None, None, [], some_makes(chance, net)[:2]])
    prices = chance.choice([None, [chance.randint(1, 3) for _ in net]])
    return net, some_makes(chance, net, 1), weights, barred, prices


def rising(makes):
    return tuple(sorted(set(makes)))


class SumBookCase(Asking):
    def no_book(self, word, place, *given):
        self.refused(NoBook, {"word": word, "place": place}, sum_asked, *given)

    def as_told(self, net, makes, weights, book, barred, prices):
        kind = SumKind(net, weights, barred, prices)
        fault = fault_of(kind, range(len(net)), rising(makes), book)
        if fault is None:
            self.assertIs(self.told(sum_asked, net, makes, weights, book, barred, prices), True)
        else:
            self.no_book(*fault, net, makes, weights, book, barred, prices)
        return fault


def changed(place, entry):
    """The book with another entry at the place."""
    return BOOK[:place] + [entry] + BOOK[place + 1:]


class RightTest(SumBookCase):
    def test_defined_here(self):
        self.assertEqual(sum_asked.__module__, sumchecks.__name__)

    def test_books(self):
        self.assertEqual(sum_book(NET, MAKES, ONES), BOOK)
        self.assertIs(sum_asked(NET, MAKES, ONES, BOOK), True)
        self.assertIs(sum_asked(NET, MAKES, ONES, BOOK, None, None), True)
        self.assertIs(sum_asked(NET, [2, 0, 1, 0], (1, 1, 1), BOOK, (), (1, 1, 1)), True)
        self.assertIs(sum_asked(NET, MAKES, ONES, BOOK, barred=[2], prices=[1, 1, 9]), True)

    def test_books_that_are_told(self):
        chance = random.Random(1)
        for _ in range(300):
            net, makes, weights, barred, prices = some_case(chance)
            book = sum_book(net, makes, weights, barred, prices)
            self.assertIs(self.told(sum_asked, net, makes, weights, book, barred, prices), True)

    def test_of_other_makes(self):
        self.assertIs(sum_asked(NET, MAKES, ONES, changed(2, (MAKES, 5, 1))), True)
        self.no_book("make", 2, NET, MAKES, ONES, changed(2, (MAKES, 5, 2)))
        chance = random.Random(2)
        for _ in range(200):
            net, makes, weights, barred, prices = some_case(chance)
            kind = SumKind(net, weights, barred, prices)
            book = with_fit_choices(chance, kind, sum_book(net, makes, weights, barred, prices))
            self.assertIs(sum_asked(net, makes, weights, book, barred, prices), True)

    def test_with_more_entries(self):
        for makes, _, _ in BOOK:
            self.assertIs(sum_asked(NET, makes, ONES, BOOK), True)
        chance = random.Random(3)
        for _ in range(200):
            net, makes, weights, barred, prices = some_case(chance)
            askings = [makes, some_makes(chance, net, 1), range(len(net))]
            book = merged(*[sum_book(net, one, weights, barred, prices) for one in askings])
            for one in askings:
                self.assertIs(sum_asked(net, one, weights, book, barred, prices), True)

    def test_settled_makes(self):
        self.assertIs(sum_asked(NET, [1, 1], ONES, [((1,), 0, None)]), True)
        self.assertIs(sum_asked(NET, MAKES, ONES, [(MAKES, 0, None)], [1, 0]), True)


def line_book(many):
    """A sum book of all makes of a line, each of the same weight, from halving."""
    sums, entries = {}, []
    for size in range(1, many + 1):
        for low in range(many - size + 1):
            makes = tuple(range(low, low + size))
            middle = None if size == 1 else low + (size - 1) // 2
            sums[makes] = 0 if size == 1 else size + sum(
                sums[side] for side in (tuple(range(low, middle + 1)), tuple(range(middle + 1, low + size))))
            entries.append((makes, sums[makes], middle))
    return sorted(entries, key=lambda entry: entry[0])


class GreatTest(SumBookCase):
    """TooGreat never comes here."""

    def test_forty_makes(self):
        with within(120):
            book = line_book(40)
            for net in (line(40), full_net(40)):
                self.assertIs(sum_asked(net, range(40), [1] * 40, book), True)
            place = [entry[0] for entry in book].index(tuple(range(40)))
            worse = list(book)
            worse[place] = (worse[place][0], worse[place][1] + 1, worse[place][2])
            self.no_book("more", place, net, list(range(40)), [1] * 40, worse)
            del worse[place]
            self.no_book("begin", 0, net, list(range(40)), [1] * 40, worse)
            self.no_book("begin", 0, net, list(range(40)), [1] * 40, [])

    def test_eleven_makes(self):
        book = line_book(11)
        self.assertIs(sum_asked(line(11), range(11), [1] * 11, book), True)
        self.no_book("begin", 0, line(11), list(range(11)), [1] * 11, BOOK)

    def test_settled_ones(self):
        makes = tuple(range(40))
        book = [(makes, 0, None)]
        self.assertIs(sum_asked(line(40), makes, [10 ** 30] * 40, book, list(range(39))), True)
        self.no_book("settled", 0, line(40), makes, [1] * 40, [(makes, 0, 39)], list(range(39)))

    def test_numbers_of_many_figures(self):
        great = 10 ** 30
        book = sum_book(NET, MAKES, [great] * 3, None, [great] * 3)
        self.assertEqual(book[2], (MAKES, 5 * great * great, 0))
        self.assertIs(sum_asked(NET, MAKES, [great] * 3, book, None, [great] * 3), True)
        for number in (10 ** 70 - 1, 0, 5 * great * great - 1, 5 * great * great + 1):
            worse = list(book)
            worse[2] = (MAKES, number, 0)
            self.no_book("more", 2, NET, MAKES, [great] * 3, worse, None, [great] * 3)


class ShapeTest(SumBookCase):
    def wrong_entry(self, entry):
        with self.subTest(entry):
            for place in range(len(BOOK) + 1):
                self.no_book("shape", 0, NET, MAKES, ONES, BOOK[:place] + [entry] + BOOK[place:])
            self.no_book("shape", 0, NET, MAKES, ONES, [entry])

    def test_no_list(self):
        for thing in (None, True, False, 0, 7, BIG, "", "book", (), tuple(BOOK), (BOOK,), MAKES):
            self.no_book("shape", 0, NET, MAKES, ONES, thing)

    def test_no_tuples_of_three(self):
        for entry in (
            None, True, 0, "abc", (), [], [MAKES, 5, 0], (MAKES, 5), (MAKES, 5, 0, 0), (MAKES,), MAKES,
        ):
            self.wrong_entry(entry)

    def test_no_rising_tuple_of_makes(self):
        for makes in (
            None, True, 0, "", "0", (), [], [0], (0, 0), (1, 0), (0, 2, 1), (-1,), (-1, 0), (3,), (0, 3),
            (BIG,), (-BIG, 0), (True,), (False, 1), (0, True), ("0",), (None,), (0, None), ((0,),), ((0, 0),),
        ):
            self.wrong_entry((makes, 0, None))

    def test_no_number(self):
        for number in (-1, -BIG, None, True, False, "0", "", (), (0,), [0]):
            self.wrong_entry(((0,), number, None))

    def test_no_make(self):
        for make in (True, False, "0", "", (), (0,), [0]):
            self.wrong_entry((MAKES, 5, make))

    def test_it_goes_ahead_of_all_else(self):
        self.no_book("shape", 0, NET, MAKES, ONES, BOOK[::-1] + [None])
        self.no_book("shape", 0, NET, MAKES, ONES, [((0,), 5, 7)] * 3 + [(MAKES, -1, 0)])

    def test_anything_at_all(self):
        chance = random.Random(4)
        for _ in range(2000):
            self.as_told(NET, MAKES, ONES, some_thing(chance, 5), None, None)
        with within(60):
            for thing in great_things():
                for book in (thing, [thing], [(thing, 0, None)], [(MAKES, thing, 0)], [(MAKES, 5, thing)],
                             [((0, thing), 0, None)], BOOK + [thing]):
                    self.as_told(NET, MAKES, ONES, book, None, None)


class WordsTest(SumBookCase):
    def test_without_entries(self):
        self.no_book("begin", 0, NET, MAKES, ONES, [])
        self.no_book("begin", 0, NET, [0], ONES, [])

    def test_order(self):
        for place in range(1, len(BOOK)):
            swapped = list(BOOK)
            swapped[place - 1], swapped[place] = BOOK[place], BOOK[place - 1]
            self.no_book("order", place, NET, MAKES, ONES, swapped)
            self.no_book("order", place, NET, MAKES, ONES, BOOK[:place] + BOOK[place - 1:])
            other = (BOOK[place - 1][0], 9, 9)
            self.no_book("order", place, NET, MAKES, ONES, BOOK[:place] + [other] + BOOK[place:])

    def test_begin(self):
        self.no_book("begin", 0, NET, MAKES, ONES, [BOOK[0]])
        self.no_book("begin", 0, NET, [2, 0], ONES, BOOK)
        self.no_book("begin", 0, NET, [2, 0], ONES, changed(1, ((0, 1), 7, 7)))

    def test_lacks(self):
        for gone, place in ((0, 0), (1, 1), (3, 1), (4, 2), (5, 2)):
            self.no_book("lacks", place, NET, MAKES, ONES, BOOK[:gone] + BOOK[gone + 1:])
        # Sides to which a make leads that is not the entry's own.
        self.no_book("lacks", 1, NET, MAKES, ONES, [BOOK[0], BOOK[2], BOOK[3], BOOK[4], BOOK[5]])

    def test_settled(self):
        for place in (0, 3, 5):
            for number, make in ((1, None), (0, 0), (0, 1), (BIG, None), (3, 2), (0, -1), (0, 9)):
                self.no_book("settled", place, NET, MAKES, ONES, changed(place, (BOOK[place][0], number, make)))
        for place in (1, 2, 4):
            for number in (BOOK[place][1], 0, 7):
                self.no_book("settled", place, NET, MAKES, ONES, changed(place, (BOOK[place][0], number, None)))

    def test_make(self):
        for place, makes in ((1, (1, 2)), (2, (2,)), (4, (0, 2))):
            for make in (*makes, -1, -3, 3, 40, BIG, -BIG):
                for number in (BOOK[place][1], 0, 8):
                    self.no_book("make", place, NET, MAKES, ONES, changed(place, (BOOK[place][0], number, make)))
        book = sum_book(NET, MAKES, ONES, [1])
        self.assertEqual(book, [((0,), 0, None), (MAKES, 3, 0), ((1, 2), 0, None)])
        book[1] = (MAKES, 3, 1)
        self.no_book("make", 1, NET, MAKES, ONES, book, [1])

    def test_more(self):
        # The sum of entry 4 is one from which that of entry 2, ahead of it, comes.
        for place, least in ((1, 1), (2, 2), (4, 2)):
            makes, number, make = BOOK[place]
            for other in (number - 1, number + 1, number + 2, BIG, 10 ** 70 - 1):
                self.no_book("more", least, NET, MAKES, ONES, changed(place, (makes, other, make)))

    def test_less(self):
        weights = [9, 1, 1]
        book = sum_book(NET, MAKES, weights)
        self.assertEqual(book[2], (MAKES, 13, 0))
        book[2] = (MAKES, 21, 1)
        self.no_book("less", 2, NET, MAKES, weights, book)
        book[2] = (MAKES, 13, 1)
        self.no_book("more", 2, NET, MAKES, weights, book)

    def test_by_weights_and_prices(self):
        self.no_book("more", 1, NET, MAKES, [1, 2, 1], BOOK)
        self.no_book("more", 1, NET, MAKES, ONES, BOOK, None, [2, 1, 1])
        nought = [(makes, 0, make) for makes, _, make in BOOK]
        self.assertIs(sum_asked(NET, MAKES, [0, 0, 0], nought), True)
        self.no_book("more", 1, NET, MAKES, [0, 1, 0], nought)
        self.no_book("more", 2, NET, MAKES, [0, 0, 0], nought[:2] + [(MAKES, 1, 0)] + nought[3:])
        self.no_book("lacks", 1, NET, MAKES, ONES, sum_book(NET, MAKES, ONES, [1]))

    def test_the_first_word_and_of_like_words_the_least_place(self):
        chance = random.Random(5)
        found = {}
        for _ in range(2500):
            net, makes, weights, barred, prices = some_case(chance)
            book = sum_book(net, makes, weights, barred, prices)
            kind = SumKind(net, weights, barred, prices)
            if chance.random() < 0.3:
                book = with_other_choice(chance, kind, rising(makes), book)
            for _ in range(chance.randint(0, 3)):
                if book:
                    book = bent(chance, book, [None, *range(-1, len(net) + 1), True, "0", BIG])
                    if not is_shape(kind, range(len(net)), book):
                        break
            fault = self.as_told(net, makes, weights, book, barred, prices)
            found[fault and fault[0]] = found.get(fault and fault[0], 0) + 1
        for word in (None, "shape", *WORDS):
            self.assertGreater(found.get(word, 0), 10, word)

    def test_books_for_other_askings(self):
        chance = random.Random(6)
        for _ in range(200):
            net, makes, weights, barred, prices = some_case(chance)
            book = sum_book(net, makes, weights, barred, prices)
            self.as_told(net, makes, weights, book, None, prices)
            self.as_told(net, makes, weights, book, barred, [chance.randint(1, 3) for _ in net])
            self.as_told(net, makes, weights, book, some_makes(chance, net)[:2], prices)
            self.as_told(net, makes, [chance.randint(0, 3) for _ in net], book, barred, prices)
            self.as_told(net, some_makes(chance, net, 1), weights, book, barred, prices)


class LeastTest(SumBookCase):
    """Whatever is let by tells the least sum of each of its sets of makes."""

    def test_books_with_other_numbers(self):
        chance = random.Random(7)
        let_by = 0
        for _ in range(1000):
            net, makes, weights, barred, prices = some_case(chance)
            shift, book = chance.choice([0, 0, 1]), []
            for held, number, make in sum_book(net, makes, weights, barred, prices):
                found = useful(net, held, barred)
                if found:
                    number, make = number + shift, chance.choice([make, make, *found])
                book.append((held, number, make))
            try:
                self.assertIs(sum_asked(net, makes, weights, book, barred, prices), True)
            except NoBook:
                continue
            let_by += 1
            for held, number, _ in book:
                self.assertTrue(is_rising(held, range(len(net))))
                self.assertEqual(number, least_sum(net, held, weights, barred, prices))
        self.assertGreater(let_by, 200)


if __name__ == "__main__":
    unittest.main()
