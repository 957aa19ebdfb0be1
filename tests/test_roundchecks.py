"""Points 2, 3, 13, 23 and 29: whether anything is a round book."""

import itertools
import random
import unittest

from badbegins import roundchecks
from badbegins.apart import useful
from badbegins.errors import NoBook
from badbegins.roundchecks import rounds_asked
from badbegins.rounds import round_book, rounds_of, split

from faults import (
    WORDS, bent, fault_of, is_shape, is_whole, merged, with_fit_choices, with_other_choice,
)
from helping import BIG, Asking, great_things, line, some_makes, some_net, some_thing, within

NET = line(4)
MAKES = (0, 1, 3)
BOOK = [
    ((0,), 0, None),
    ((0, 1), 1, (0,)),
    ((0, 1, 3), 1, (0, 1)),
    ((1,), 0, None),
    ((1, 3), 1, (1,)),
    ((3,), 0, None),
]


class RoundKind:
    """What the books are by this width and these barred ones."""

    def __init__(self, net, width, barred):
        self.net, self.width, self.barred = net, width, barred

    def is_choice(self, choice):
        return isinstance(choice, tuple) and all(map(is_whole, choice))

    def choices(self, makes):
        found = useful(self.net, makes, self.barred)
        return [
            tried for size in range(1, self.width + 1) for tried in itertools.combinations(found, size)]

    def leads(self, makes, tried):
        return [left for _, left in split(self.net, makes, tried)]

    def coming(self, makes, tried, numbers):
        return 1 + max(numbers[left] for left in self.leads(makes, tried))


def rising(makes):
    return tuple(sorted(set(makes)))


def some_case(chance):
    net = some_net(chance, 6)
    makes = rising(some_makes(chance, net, 1))[:4]
    makes = chance.sample(makes, len(makes)) + list(makes[:chance.randint(0, 2)])
    return net, makes, chance.randint(1, 3), chance.choice([None, None, [], some_makes(chance, net)[:2]])


class RoundBookCase(Asking):
    def no_book(self, word, place, *given):
        self.refused(NoBook, {"word": word, "place": place}, rounds_asked, *given)

    def as_told(self, net, makes, width, book, barred=None):
        fault = fault_of(RoundKind(net, width, barred), makes, rising(makes), book)
        if fault is None:
            self.assertIs(self.told(rounds_asked, net, makes, width, book, barred), True)
        else:
            self.no_book(*fault, net, makes, width, book, barred)
        return fault


def changed(place, entry):
    """The book with another entry at the place."""
    return BOOK[:place] + [entry] + BOOK[place + 1:]


class RightTest(RoundBookCase):
    def test_defined_here(self):
        self.assertEqual(rounds_asked.__module__, roundchecks.__name__)

    def test_books(self):
        self.assertEqual(round_book(NET, MAKES, 2), BOOK)
        self.assertIs(rounds_asked(NET, MAKES, 2, BOOK), True)
        self.assertIs(rounds_asked(NET, [3, 0, 1, 0], 2, BOOK, None), True)
        self.assertIs(rounds_asked(NET, MAKES, 2, BOOK, ()), True)
        self.assertIs(rounds_asked(NET, MAKES, 2, BOOK, barred=[3, 2, 3]), True)

    def test_books_that_are_told(self):
        chance = random.Random(1)
        for _ in range(300):
            net, makes, width, barred = some_case(chance)
            book = round_book(net, makes, width, barred)
            self.assertIs(self.told(rounds_asked, net, makes, width, book, barred), True)

    def test_of_other_tried_ones(self):
        for tried in ((0, 2), (0, 1)):
            self.assertIs(rounds_asked(NET, MAKES, 2, changed(2, (MAKES, 1, tried))), True)
        for tried in ((1, 2), (0,)):
            self.no_book("more", 2, NET, MAKES, 2, changed(2, (MAKES, 1, tried)))
        for tried in ((2,), (1, 2)):
            self.assertIs(rounds_asked(NET, MAKES, 2, changed(4, ((1, 3), 1, tried))), True)
        self.assertIs(rounds_asked(NET, MAKES, 3, changed(2, (MAKES, 1, (0, 1, 2)))), True)
        chance = random.Random(2)
        for _ in range(200):
            net, makes, width, barred = some_case(chance)
            kind = RoundKind(net, width, barred)
            book = with_fit_choices(chance, kind, round_book(net, makes, width, barred))
            self.assertIs(rounds_asked(net, makes, width, book, barred), True)

    def test_with_more_entries(self):
        for makes, _, _ in BOOK:
            among = [entry for entry in BOOK if set(entry[0]) <= set(makes)]
            self.assertIs(rounds_asked(NET, makes, 2, among), True)
        chance = random.Random(3)
        for _ in range(200):
            net, makes, width, barred = some_case(chance)
            other = chance.sample(makes, chance.randint(1, len(makes)))
            book = merged(*[round_book(net, one, width, barred) for one in (makes, other)])
            self.assertIs(rounds_asked(net, makes, width, book, barred), True)

    def test_settled_makes(self):
        self.assertIs(rounds_asked(NET, [1, 1], 3, [((1,), 0, None)]), True)
        makes = tuple(range(40))
        for width in (1, 2, 3):
            self.assertIs(rounds_asked(line(40), makes, width, [(makes, 0, None)], range(39)), True)
            more = [((0, 1), 0, None), (makes, 0, None), ((7, 39), 0, None)]
            self.assertIs(rounds_asked(line(40), makes, width, more, range(39)), True)


class ShapeTest(RoundBookCase):
    def wrong_entry(self, entry):
        with self.subTest(entry):
            for place in range(len(BOOK) + 1):
                self.no_book("shape", 0, NET, MAKES, 2, BOOK[:place] + [entry] + BOOK[place:])
            self.no_book("shape", 0, NET, MAKES, 2, [entry])

    def test_no_list(self):
        for thing in (None, True, False, 0, 7, BIG, "", "book", (), tuple(BOOK), (BOOK,), MAKES):
            self.no_book("shape", 0, NET, MAKES, 2, thing)

    def test_no_tuples_of_three(self):
        for entry in (
            None, True, 0, "abc", (), [], [MAKES, 1, (0, 1)], (MAKES, 1), (MAKES, 1, (0,), 0), (MAKES,), MAKES,
        ):
            self.wrong_entry(entry)

    def test_no_rising_tuple_of_these_makes(self):
        for makes in (
            None, True, 0, "", "0", (), [], [0], (0, 0), (1, 0), (0, 3, 1), (-1,), (-1, 0), (4,), (0, 4),
            (BIG,), (-BIG, 0), (True,), (False, 1), (0, True), ("0",), (None,), (0, None), ((0,),), ((0, 0),),
        ):
            self.wrong_entry((makes, 0, None))

    def test_other_makes_of_the_net(self):
        for makes in ((2,), (0, 2), (2, 3), (0, 1, 2, 3)):
            self.wrong_entry((makes, 0, None))
        book = round_book(NET, range(4), 2)
        self.assertIs(rounds_asked(NET, range(4), 2, book), True)
        self.no_book("shape", 0, NET, MAKES, 2, book)

    def test_no_number(self):
        for number in (-1, -BIG, None, True, False, "0", "", (), (0,), [0]):
            self.wrong_entry(((0,), number, None))

    def test_no_tuple_of_whole_numbers(self):
        for tried in (
            True, False, 0, 1, BIG, "0", "", [], [0], (True,), (0, False), ("0",), (None,), ((0,),), (0, (1,)),
            (0, [1]), (0, ""),
        ):
            self.wrong_entry((MAKES, 1, tried))

    def test_it_goes_ahead_of_all_else(self):
        self.no_book("shape", 0, NET, MAKES, 2, BOOK[::-1] + [None])
        self.no_book("shape", 0, NET, MAKES, 2, [((0,), 5, (7,))] * 3 + [(MAKES, -1, (0,))])

    def test_anything_at_all(self):
        chance = random.Random(4)
        for _ in range(2000):
            self.as_told(NET, MAKES, 2, some_thing(chance, 5))
        with within(60):
            for thing in great_things():
                for book in (thing, [thing], [(thing, 0, None)], [(MAKES, thing, (0,))], [(MAKES, 1, thing)],
                             [((0, thing), 0, None)], [(MAKES, 1, (0, thing))], changed(2, (MAKES, 1, thing)),
                             BOOK + [thing]):
                    self.as_told(NET, MAKES, 2, book)


class WordsTest(RoundBookCase):
    def test_without_entries(self):
        self.no_book("begin", 0, NET, MAKES, 2, [])
        self.no_book("begin", 0, NET, [0], 1, [])

    def test_order(self):
        for place in range(1, len(BOOK)):
            swapped = list(BOOK)
            swapped[place - 1], swapped[place] = BOOK[place], BOOK[place - 1]
            self.no_book("order", place, NET, MAKES, 2, swapped)
            self.no_book("order", place, NET, MAKES, 2, BOOK[:place] + BOOK[place - 1:])
            other = (BOOK[place - 1][0], 9, (9,))
            self.no_book("order", place, NET, MAKES, 2, BOOK[:place] + [other] + BOOK[place:])

    def test_begin(self):
        self.no_book("begin", 0, NET, MAKES, 2, [BOOK[0]])
        self.no_book("begin", 0, NET, MAKES, 2, [((0,), 8, (8,)), ((0, 3), 1, (0,))])

    def test_lacks(self):
        for gone, place in ((0, 0), (1, 1), (3, 1), (4, 2), (5, 2)):
            self.no_book("lacks", place, NET, MAKES, 2, BOOK[:gone] + BOOK[gone + 1:])

    def test_settled(self):
        for place in (0, 3, 5):
            for number, tried in ((1, None), (0, ()), (0, (0,)), (BIG, None), (3, (2,)), (0, (-1, 9))):
                self.no_book("settled", place, NET, MAKES, 2, changed(place, (BOOK[place][0], number, tried)))
        for place in (1, 2, 4):
            for number in (BOOK[place][1], 0, 7):
                self.no_book("settled", place, NET, MAKES, 2, changed(place, (BOOK[place][0], number, None)))

    def test_make(self):
        for place, wrong in ((1, (1,)), (2, (3,)), (4, (0,))):
            for tried in (
                wrong, (), (-1,), (4,), (40,), (BIG,), (0, 0), (1, 0), (2, 1), (0, 1, 2), (0, 1, BIG), (-1, 0),
                tuple(range(40)), (0,) * 300,
            ):
                for number in (BOOK[place][1], 0, 8):
                    self.no_book("make", place, NET, MAKES, 2, changed(place, (BOOK[place][0], number, tried)))
        # Too wide, or with one that is barred.
        self.no_book("make", 2, NET, MAKES, 1, changed(2, (MAKES, 2, (0, 1))))
        self.assertIs(rounds_asked(NET, MAKES, 1, changed(2, (MAKES, 2, (0,)))), True)
        self.no_book("make", 2, NET, MAKES, 2, changed(2, (MAKES, 1, (0, 2))), [2])
        self.assertIs(rounds_asked(NET, MAKES, 2, BOOK, [2]), True)

    def test_more(self):
        # The rounds of entry 4 are some from which those of entry 2, ahead of it, don't come.
        for place in (1, 2, 4):
            makes, number, tried = BOOK[place]
            for other in (number - 1, number + 1, number + 2, BIG, 10 ** 70 - 1):
                self.no_book("more", place, NET, MAKES, 2, changed(place, (makes, other, tried)))
        self.no_book("more", 2, NET, MAKES, 2, changed(2, (MAKES, 2, (0, 1))))

    def test_less(self):
        for tried in ((0,), (1,), (1, 2)):
            self.no_book("less", 2, NET, MAKES, 2, changed(2, (MAKES, 2, tried)))
        self.assertIs(rounds_asked(NET, MAKES, 1, changed(2, (MAKES, 2, (1,)))), True)

    def test_the_first_word_and_of_like_words_the_least_place(self):
        chance = random.Random(5)
        found = {}
        for _ in range(2500):
            net, makes, width, barred = some_case(chance)
            book = round_book(net, makes, width, barred)
            kind = RoundKind(net, width, barred)
            if chance.random() < 0.3:
                book = with_other_choice(chance, kind, rising(makes), book)
            wrong = [None, (), (0,), (1,), (2,), (0, 1), (1, 0), (0, 2), (0, 1, 2), (9,), (True,), 0, BIG]
            for _ in range(chance.randint(0, 3)):
                if book:
                    book = bent(chance, book, wrong)
                    if not is_shape(kind, makes, book):
                        break
            fault = self.as_told(net, makes, width, book, barred)
            found[fault and fault[0]] = found.get(fault and fault[0], 0) + 1
        for word in (None, "shape", *WORDS):
            self.assertGreater(found.get(word, 0), 10, word)

    def test_books_for_other_askings(self):
        chance = random.Random(6)
        for _ in range(200):
            net, makes, width, barred = some_case(chance)
            book = round_book(net, makes, width, barred)
            self.as_told(net, makes, width, book, None)
            self.as_told(net, makes, chance.randint(1, 3), book, barred)
            self.as_told(net, makes, width, book, some_makes(chance, net)[:2])
            self.as_told(net, rising(some_makes(chance, net, 1))[:4], width, book, barred)


class LeastTest(RoundBookCase):
    """Whatever is let by tells the rounds of each of its sets of makes."""

    def test_books_with_other_numbers(self):
        chance = random.Random(7)
        let_by = 0
        for _ in range(1000):
            net, makes, width, barred = some_case(chance)
            kind, shift, book = RoundKind(net, width, barred), chance.choice([0, 0, 1]), []
            for held, number, tried in round_book(net, makes, width, barred):
                choices = kind.choices(held)
                if choices:
                    number, tried = number + shift, chance.choice([tried, tried, *choices])
                book.append((held, number, tried))
            try:
                self.assertIs(rounds_asked(net, makes, width, book, barred), True)
            except NoBook:
                continue
            let_by += 1
            for held, number, _ in book:
                self.assertEqual(number, rounds_of(net, held, width, barred))
        self.assertGreater(let_by, 200)


if __name__ == "__main__":
    unittest.main()
