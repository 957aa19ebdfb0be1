"""Points 2, 3, 21 and 22: numbers of stands, books, best plans, what is too great."""

import itertools
import random
import unittest

from badbegins import books
from badbegins.apart import classes, settled, useful
from badbegins.bookchecks import book_asked
from badbegins.books import best_plan, book_of, number_of
from badbegins.errors import TooGreat
from badbegins.nets import renumbered
from badbegins.planchecks import plan_asked
from badbegins.plans import worst_of
from badbegins.stands import behind, makes_of, stand_of

from helping import Asking, full_net, led_with_lies, line, some_makes, some_net, some_order, within

NET = ((), (0,), (0,), (1, 2), (), (2, 4))
MOST = (10, 6, 4, 3)


def price(prices, make):
    return 1 if prices is None else prices[make]


def number_by_all_ways(net, stand, barred, lies, prices):
    """Point 21 word by word, each stand reckoned anew each time."""
    return min((
        price(prices, make) + max(
            number_by_all_ways(net, behind(net, stand, make, answer, lies), barred, lies, prices)
            for answer in ("bad", "good"))
        for make in useful(net, makes_of(stand), barred)), default=0)


def worsts_of_all_plans(net, stand, barred, lies, prices):
    """The worsts of all plans for the stand, as a set."""
    worsts = set()
    for make in useful(net, makes_of(stand), barred):
        bad, good = (
            worsts_of_all_plans(net, behind(net, stand, make, answer, lies), barred, lies, prices)
            for answer in ("bad", "good"))
        worsts |= {price(prices, make) + max(pair) for pair in itertools.product(bad, good)}
    return worsts or {0}


def book_by_words(net, stand, barred, lies, prices):
    """Point 22 word by word, from the numbers of the stands that come up."""
    stands, todo = set(), [stand]
    while todo:
        one = todo.pop()
        if one not in stands:
            stands.add(one)
            todo += [
                behind(net, one, make, answer, lies)
                for make in useful(net, makes_of(one), barred) for answer in ("bad", "good")]
    # Fewer makes, or more against one of them: those behind come first.
    numbers, entries = {}, []
    for one in sorted(stands, key=lambda held: sum(lies + 1 - many for _, many in held)):
        comings = [
            (price(prices, make) + max(
                numbers[behind(net, one, make, answer, lies)] for answer in ("bad", "good")), make)
            for make in useful(net, makes_of(one), barred)]
        number, make = min(comings, default=(0, None))
        numbers[one] = number
        entries.append((one, number, make))
    return sorted(entries, key=lambda entry: entry[0])


def some_case(chance, most_lies=3, most_makes=9):
    """A net, a stand with makes few enough, barred ones, lies and prices."""
    net = some_net(chance, most_makes)
    lies = chance.randint(0, most_lies)
    makes = sorted(set(some_makes(chance, net, 1)))[:MOST[lies]]
    stand = tuple((make, chance.randint(0, lies)) for make in makes)
    if chance.random() < 0.5:
        stand = stand_of(makes)
    barred = chance.choice([None, None, [], some_makes(chance, net)[:3]])
    prices = chance.choice([
        None, [chance.randint(1, 4) for _ in net],
        [chance.choice([1, 2, 10 ** 30]) for _ in net]])
    return net, stand, barred, lies, prices


class BookTest(Asking):
    def test_defined_here(self):
        for call in (book_of, number_of, best_plan):
            self.assertEqual(call.__module__, books.__name__)

    def test_entries_sorted(self):
        self.assertEqual(book_of(line(3), stand_of(range(3))), [
            (((0, 0),), 0, None),
            (((0, 0), (1, 0)), 1, 0),
            (((0, 0), (1, 0), (2, 0)), 2, 0),
            (((1, 0),), 0, None),
            (((1, 0), (2, 0)), 1, 1),
            (((2, 0),), 0, None),
        ])

    def test_with_a_lie(self):
        self.assertEqual(book_of(line(2), stand_of([0, 1]), None, 1), [
            (((0, 0),), 0, None),
            (((0, 0), (1, 0)), 3, 0),
            (((0, 0), (1, 1)), 2, 0),
            (((0, 1),), 0, None),
            (((0, 1), (1, 0)), 2, 0),
            (((0, 1), (1, 1)), 1, 0),
            (((1, 0),), 0, None),
            (((1, 1),), 0, None),
        ])

    def test_settled_stands_have_one_entry(self):
        for stand in (((3, 0),), ((3, 1),)):
            self.assertEqual(book_of(NET, stand, None, 1), [(stand, 0, None)])
            self.assertEqual(number_of(NET, stand, None, 1), 0)
            self.assertEqual(best_plan(NET, stand, None, 1), ("left", (3,)))
        stand = stand_of([1, 2])
        self.assertEqual(book_of(NET, stand, [1, 2, 5]), [(stand, 0, None)])
        self.assertEqual(best_plan(NET, stand, [1, 2, 5]), ("left", (1, 2)))

    def test_the_least_make_with_which_the_number_comes(self):
        stand = stand_of(range(4))
        self.assertEqual(book_of(line(4), stand)[3], (stand, 2, 1))
        self.assertEqual(book_of(line(4), stand, [1])[2], (stand, 2, 0))
        self.assertEqual(book_of(line(4), stand, None, 0, [1, 9, 1, 1])[3], (stand, 10, 1))
        self.assertEqual(book_of(line(4), stand, None, 0, [9, 2, 1, 1])[3], (stand, 11, 1))
        three = ((), (), ())
        self.assertEqual(book_of(three, stand_of(range(3)))[2], (stand_of(range(3)), 2, 0))
        self.assertEqual(book_of(three, stand_of(range(3)), None, 0, [2, 1, 1])[2][1:], (2, 1))
        self.assertEqual(book_of(three, stand_of(range(3)), None, 0, [2, 1, 2])[2][1:], (3, 0))

    def test_by_chance(self):
        chance = random.Random(1)
        for _ in range(150):
            case = some_case(chance)
            told = self.told(book_of, *case)
            self.assertEqual(told, book_by_words(*case))
            self.assertEqual(told, sorted(told, key=lambda entry: entry[0]))
            number = dict((stand, number) for stand, number, _ in told)[case[1]]
            self.assertEqual(self.told(number_of, *case), number)

    def test_kinds_of_what_is_told(self):
        told = book_of(NET, stand_of([0, 1, 4]), None, 1)
        self.assertIs(type(told), list)
        for entry in told:
            self.assertEqual([type(thing) for thing in entry[:2]], [tuple, int])
            self.assertIs(type(entry), tuple)
            self.assertIn(type(entry[2]), (int, type(None)))

    def test_told_lists_are_new_ones(self):
        for stand in (stand_of([0, 1, 4]), ((3, 0),)):
            first, second = book_of(NET, stand), book_of(NET, stand)
            first.append(9)
            self.assertEqual(book_of(NET, stand), second)

    def test_what_may_be_left_out(self):
        stand = stand_of([0, 1, 2, 4])
        for call in (book_of, number_of, best_plan):
            told = call(NET, stand)
            self.assertEqual(call(NET, stand, None, 0, None), told)
            self.assertEqual(call(NET, stand, [], 0, [1] * 6), told)
            self.assertEqual(call(NET, stand, barred=(), prices=(1,) * 6), told)
            self.assertEqual(call(NET, stand, lies=1), call(NET, stand, None, 1))
            self.assertEqual(call(NET, stand, [4, 0, 4]), call(NET, stand, (0, 4)))


class NumberTest(Asking):
    def test_numbers(self):
        self.assertEqual(number_of(NET, stand_of(range(6))), 3)
        self.assertEqual(number_of(NET, stand_of(range(6)), None, 1), 6)
        self.assertEqual(number_of(((),) * 6, stand_of(range(6))), 5)
        self.assertEqual(number_of(line(8), stand_of(range(8))), 3)
        self.assertEqual(number_of(line(9), stand_of(range(9))), 4)
        self.assertEqual(number_of(line(2), stand_of([0, 1]), None, 3), 7)

    def test_with_prices(self):
        great = 10 ** 30
        self.assertEqual(number_of(((),) * 3, stand_of(range(3)), None, 0, [5, 7, 9]), 12)
        self.assertEqual(number_of(line(4), stand_of(range(4)), None, 0, [great] * 4), 2 * great)
        self.assertEqual(number_of(line(4), stand_of(range(4)), None, 0, [1, great, 1, 1]), great + 1)
        self.assertEqual(number_of(line(3), stand_of(range(3)), None, 0, [3, 1, 1]), 4)
        self.assertEqual(number_of(line(2), stand_of([0, 1]), None, 1, [6, 2]), 18)

    def test_barred_ones_are_not_tried(self):
        self.assertEqual(number_of(line(4), stand_of(range(4)), [1]), 2)
        self.assertEqual(number_of(line(4), stand_of(range(4)), [0, 1]), 1)
        self.assertEqual(number_of(line(4), stand_of(range(4)), [0, 1, 2]), 0)
        self.assertEqual(number_of(((),) * 4, stand_of(range(4)), [2]), 3)
        self.assertEqual(number_of(((),) * 4, stand_of(range(4)), [2, 0, 2]), 2)

    def test_all_ways(self):
        chance = random.Random(2)
        for most_lies, most_makes in ((0, 5), (1, 3), (3, 2)):
            for _ in range(60):
                case = some_case(chance, most_lies, most_makes)
                self.assertEqual(number_of(*case), number_by_all_ways(*case))

    def test_it_is_the_least_worst_of_all_plans(self):
        chance = random.Random(3)
        for most_lies, most_makes in ((0, 4), (1, 3), (3, 2)):
            for _ in range(60):
                case = some_case(chance, most_lies, most_makes)
                self.assertEqual(number_of(*case), min(worsts_of_all_plans(*case)))

    def test_a_stand_with_fewer_makes_or_more_against_has_no_greater_number(self):
        chance = random.Random(4)
        for _ in range(150):
            net, stand, barred, lies, prices = some_case(chance)
            less = tuple(
                (make, chance.randint(many, lies)) for make, many in stand if chance.random() < 0.8)
            if less:
                self.assertLessEqual(
                    number_of(net, less, barred, lies, prices),
                    number_of(net, stand, barred, lies, prices))

    def test_classes_are_at_most_two_so_many_times(self):
        chance = random.Random(5)
        for _ in range(150):
            net, stand, barred, lies, _ = some_case(chance)
            number = number_of(net, stand, barred, lies)
            self.assertLessEqual(len(classes(net, makes_of(stand), barred)), 2 ** number)

    def test_which_numbers_the_makes_have_changes_no_number(self):
        chance = random.Random(6)
        for _ in range(100):
            net, stand, barred, lies, prices = some_case(chance)
            order = some_order(chance, net)
            moved = {make: place for place, make in enumerate(order)}
            self.assertEqual(
                number_of(net, stand, barred, lies, prices),
                number_of(
                    renumbered(net, order), tuple(sorted((moved[make], many) for make, many in stand)),
                    None if barred is None else [moved[make] for make in barred], lies,
                    None if prices is None else [prices[make] for make in order]))


class BestPlanTest(Asking):
    def test_plans(self):
        self.assertEqual(best_plan(line(3), stand_of(range(3))), (
            "try", 0, ("left", (0,)), ("try", 1, ("left", (1,)), ("left", (2,)))))
        self.assertEqual(best_plan(line(4), stand_of(range(4)), [0, 1]), (
            "try", 2, ("left", (0, 1, 2)), ("left", (3,))))
        again = ("try", 0, ("left", (0,)), ("left", (1,)))
        self.assertEqual(best_plan(line(2), stand_of([0, 1]), None, 1), (
            "try", 0, ("try", 0, ("left", (0,)), again), ("try", 0, again, ("left", (1,)))))

    def test_it_is_a_plan_for_the_stand_with_the_number_as_its_worst(self):
        chance = random.Random(7)
        for _ in range(200):
            net, stand, barred, lies, prices = some_case(chance)
            plan = self.told(best_plan, net, stand, barred, lies, prices)
            self.assertIs(plan_asked(net, stand, plan, barred, lies), True)
            self.assertEqual(worst_of(plan, prices), number_of(net, stand, barred, lies, prices))

    def test_it_tries_at_each_stand_the_make_of_the_book(self):
        chance = random.Random(8)
        for _ in range(100):
            net, stand, barred, lies, prices = some_case(chance)
            book = {held: make for held, _, make in book_of(net, stand, barred, lies, prices)}
            todo = [(stand, best_plan(net, stand, barred, lies, prices))]
            while todo:
                held, plan = todo.pop()
                if book[held] is None:
                    self.assertEqual(plan, ("left", makes_of(held)))
                else:
                    self.assertEqual(plan[:2], ("try", book[held]))
                    for answer, part in (("bad", plan[2]), ("good", plan[3])):
                        todo.append((behind(net, held, plan[1], answer, lies), part))

    def test_whichever_trials_lie_it_leads_to_where_badness_began(self):
        chance = random.Random(9)
        for _ in range(300):
            net, stand, barred, lies, prices = some_case(chance)
            first, many = chance.choice(stand)
            plan = best_plan(net, stand, barred, lies, prices)
            tried, makes = led_with_lies(chance, net, plan, first, lies - many)
            self.assertIn(first, makes)
            self.assertTrue(settled(net, makes, barred))
            self.assertLessEqual(
                sum(price(prices, make) for make in tried),
                number_of(net, stand, barred, lies, prices))


class TooGreatTest(Asking):
    def too_great(self, many, *given):
        for call in (book_of, number_of, best_plan):
            self.refused(TooGreat, {"many": many}, call, *given)

    def test_one_more_than_can_be_reckoned(self):
        for lies, most in enumerate(MOST):
            for net in (line(12), ((),) * 12, full_net(40)):
                for many in (most + 1, most + 2):
                    self.too_great(many, net, stand_of(range(many)), None, lies)
                    against = tuple((make, lies) for make in range(many))
                    self.too_great(many, net, against, [11], lies, [2] * len(net))

    def test_just_as_many_as_can_be_reckoned(self):
        numbers = (4, 6, 8, 11)
        for lies, most in enumerate(MOST):
            stand = stand_of(range(most))
            with within(60):
                number = number_of(line(12), stand, None, lies)
                self.assertEqual(worst_of(best_plan(line(12), stand, None, lies)), number)
                self.assertIs(book_asked(
                    line(12), stand, book_of(line(12), stand, None, lies), None, lies), True)
            self.assertEqual(number, numbers[lies])

    def test_the_makes_of_the_stand_count_not_the_net(self):
        self.assertEqual(number_of(line(40), stand_of(range(30, 40))), 4)
        self.assertEqual(number_of(full_net(40), stand_of([0, 20, 39]), None, 3), 11)

    def test_alike_ones_count_each(self):
        self.too_great(12, line(12), stand_of(range(12)), [0, 1, 2, 3, 4, 5, 6, 7, 8, 9])
        self.too_great(7, line(12), stand_of(range(7)), range(1, 12), 1)

    def test_settled_stands_are_never_too_great(self):
        for lies in range(4):
            for many in (4, 11, 40):
                stand = tuple((make, lies) for make in range(many))
                barred = list(range(39))
                self.assertEqual(book_of(line(40), stand, barred, lies), [(stand, 0, None)])
                self.assertEqual(number_of(line(40), stand, barred, lies), 0)
                self.assertEqual(best_plan(line(40), stand, barred, lies), ("left", makes_of(stand)))

    def test_no_lies_unless_told(self):
        self.assertEqual(number_of(line(10), stand_of(range(10))), 4)
        self.too_great(11, line(11), stand_of(range(11)))


class OnceTest(Asking):
    """What comes up again within one asking is reckoned once."""

    def test_ten_makes_that_can_be_parted_every_way(self):
        net = ((),) * 10 + tuple(
            tuple(make for make in range(10) if (37 * place + 11) >> make & 1) for place in range(30))
        stand = stand_of(range(10))
        with within(60):
            book = book_of(net, stand)
            self.assertEqual(len(book), 2 ** 10 - 1)
            self.assertEqual(number_of(net, stand), 4)
            self.assertEqual(worst_of(best_plan(net, stand)), 4)
            self.assertIs(book_asked(net, stand, book), True)

    def test_ten_makes_that_only_they_themselves_part(self):
        net = ((),) * 10
        stand = stand_of(range(10))
        with within(60):
            self.assertEqual(len(book_of(net, stand)), 2 ** 10 - 1)
            self.assertEqual(number_of(net, stand), 9)
            self.assertEqual(worst_of(best_plan(net, stand)), 9)

    def test_with_lies(self):
        for lies, stands in ((1, 3 ** 6 - 1), (2, 4 ** 4 - 1), (3, 5 ** 3 - 1)):
            many = MOST[lies]
            net = ((),) * many + tuple(itertools.combinations(range(many), 2))
            with within(60):
                book = book_of(net, stand_of(range(many)), None, lies, [7] * len(net))
                self.assertLessEqual(len(book), stands)
                self.assertGreater(len(book), stands - 3)
                plan = best_plan(net, stand_of(range(many)), None, lies)
                self.assertEqual(worst_of(plan), number_of(net, stand_of(range(many)), None, lies))


if __name__ == "__main__":
    unittest.main()
