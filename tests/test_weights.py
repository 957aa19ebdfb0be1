"""Points 2, 13, 24 and 25: sums of plans, sum books, least sums and plans of these."""

import itertools
import random
import unittest

from badbegins import weights as weights_file
from badbegins.apart import settled, sides, useful
from badbegins.errors import TooGreat
from badbegins.nets import renumbered
from badbegins.planchecks import plan_asked
from badbegins.plans import led
from badbegins.stands import stand_of
from badbegins.sumchecks import sum_asked
from badbegins.weights import least_sum, sum_book, sum_of, sum_plan

from helping import (
    Asking, full_net, line, long_plan, paths_of, small_nets, some_makes, some_net, some_order,
    some_plan, subsets, within,
)

NET = ((), (0,), (0,), (1, 2), (), (2, 4))
GREAT = 10 ** 30
PLAN = (
    "try", 3,
    ("try", 1, ("left", (0, 1)), ("try", 2, ("left", (2,)), ("left", (3,)))),
    ("try", 4, ("left", (4,)), ("left", (5,))),
)


def price(prices, make):
    return 1 if prices is None else prices[make]


def sum_by_paths(plan, weights, prices):
    """Point 24 word by word."""
    return sum(
        weights[make] * sum(price(prices, one) for one in tried)
        for _, tried, makes in paths_of(plan) for make in makes)


def sum_by_all_ways(net, makes, weights, barred, prices):
    """Point 25 word by word, each set of makes reckoned anew each time."""
    together = sum(weights[make] for make in makes)
    return min((
        price(prices, make) * together + sum(
            sum_by_all_ways(net, side, weights, barred, prices) for side in sides(net, makes, make))
        for make in useful(net, makes, barred)), default=0)


def all_plans(net, makes, barred):
    """All plans for the makes without lies."""
    plans = [
        ("try", make, *pair)
        for make in useful(net, makes, barred)
        for pair in itertools.product(*[all_plans(net, side, barred) for side in sides(net, makes, make)])
    ]
    return plans or [("left", makes)]


def book_by_words(net, makes, weights, barred, prices):
    """The sum book word by word, from the sums of the sides that come up."""
    found, todo = set(), [tuple(sorted(set(makes)))]
    while todo:
        one = todo.pop()
        if one not in found:
            found.add(one)
            todo += [side for make in useful(net, one, barred) for side in sides(net, one, make)]
    sums, entries = {}, []
    for one in sorted(found, key=len):
        comings = [
            (price(prices, make) * sum(weights[each] for each in one)
             + sum(sums[side] for side in sides(net, one, make)), make)
            for make in useful(net, one, barred)]
        least, make = min(comings, default=(0, None))
        sums[one] = least
        entries.append((one, least, make))
    return sorted(entries, key=lambda entry: entry[0])


def some_weights(chance, net):
    return [chance.choice([0, 1, 1, 2, 3, 7, GREAT]) for _ in net]


def some_prices(chance, net):
    return chance.choice([
        None, [chance.randint(1, 4) for _ in net], [chance.choice([1, 2, GREAT]) for _ in net]])


def some_case(chance, most_makes=9):
    """A net, makes in any order, weights, barred ones and prices."""
    net = some_net(chance, most_makes)
    barred = chance.choice([None, None, [], some_makes(chance, net)[:3]])
    return net, some_makes(chance, net, 1), some_weights(chance, net), barred, some_prices(chance, net)


class SumOfTest(Asking):
    def test_defined_here(self):
        for call in (sum_of, sum_book, least_sum, sum_plan):
            self.assertEqual(call.__module__, weights_file.__name__)

    def test_of_a_plan_that_is_only_left(self):
        for plan in (("left", (1, 3)), ("left", ())):
            self.assertEqual(sum_of(plan, [7] * 6), 0)
            self.assertEqual(sum_of(plan, [GREAT] * 6, [GREAT] * 6), 0)

    def test_without_prices(self):
        self.assertEqual(self.told(sum_of, PLAN, [1] * 6), 2 + 2 + 3 + 3 + 2 + 2)
        self.assertEqual(sum_of(PLAN, [1, 2, 3, 4, 5, 6]), 2 * 3 + 3 * 7 + 2 * 11)
        self.assertEqual(sum_of(PLAN, (1, 2, 3, 4, 5, 6), None), 49)
        self.assertEqual(sum_of(PLAN, [1, 2, 3, 4, 5, 6], [1] * 6), 49)

    def test_with_prices(self):
        self.assertEqual(
            self.told(sum_of, PLAN, [1, 2, 3, 4, 5, 6], [9, 2, 3, 10, 4, 9]),
            12 * 3 + 15 * 7 + 14 * 11)
        self.assertEqual(sum_of(PLAN, (1, 0, 0, 0, 0, 0), (9, 2, 3, 10, 4, 9)), 12)

    def test_weights_of_nought_and_great_ones(self):
        self.assertEqual(sum_of(PLAN, [0] * 6), 0)
        self.assertEqual(sum_of(PLAN, [0] * 6, [GREAT] * 6), 0)
        self.assertEqual(sum_of(PLAN, [GREAT] * 6), 14 * GREAT)
        self.assertEqual(sum_of(PLAN, [0, 0, 0, GREAT, 0, 0], [GREAT] * 6), 3 * GREAT * GREAT)

    def test_makes_count_as_often_as_they_stand_there(self):
        plan = ("try", 1, ("left", (0, 0, 0)), ("try", 2, ("left", ()), ("left", (0, 1))))
        self.assertEqual(sum_of(plan, [5, 7, 0]), 3 * 5 + 2 * 5 + 2 * 7)
        self.assertEqual(sum_of(plan, [5, 7, 0], [1, 10, 100]), 30 * 5 + 110 * 5 + 110 * 7)

    def test_some_plans(self):
        chance = random.Random(1)
        for _ in range(300):
            net = some_net(chance, 6)
            plan = some_plan(chance, net, 5)
            weights, prices = some_weights(chance, net), some_prices(chance, net)
            self.assertEqual(
                self.told(sum_of, plan, weights, prices), sum_by_paths(plan, weights, prices))

    def test_it_tells_how_much_is_spent(self):
        chance = random.Random(2)
        for _ in range(100):
            net, makes, weights, barred, prices = some_case(chance)
            plan = sum_plan(net, makes, weights, barred, prices)
            self.assertEqual(sum_of(plan, weights, prices), sum(
                weights[first] * sum(price(prices, make) for make in led(net, plan, first)[0])
                for first in set(makes)))

    def test_sixty_tries_within_one_another(self):
        for deep in ("bad", "good"):
            plan = long_plan(60, deep)
            self.assertEqual(sum_of(plan, [1, 0]), 60)
            self.assertEqual(sum_of(plan, [0, 1]), 60 * 61 // 2)
            self.assertEqual(sum_of(plan, [GREAT, 1], [1, 5]), 300 * GREAT + 5 * 60 * 61 // 2)


class SumBookTest(Asking):
    def test_entries_sorted(self):
        self.assertEqual(self.told(sum_book, line(3), [2, 0, 1, 2], [1, 2, 4]), [
            ((0,), 0, None),
            ((0, 1), 3, 0),
            ((0, 1, 2), 10, 1),
            ((1,), 0, None),
            ((1, 2), 6, 1),
            ((2,), 0, None),
        ])

    def test_settled_makes_have_one_entry(self):
        for makes in ([3], [3, 3], (3,)):
            self.assertEqual(sum_book(NET, makes, [GREAT] * 6), [((3,), 0, None)])
            self.assertEqual(least_sum(NET, makes, [GREAT] * 6), 0)
            self.assertEqual(sum_plan(NET, makes, [GREAT] * 6), ("left", (3,)))
        self.assertEqual(sum_book(NET, [2, 1], [1] * 6, [1, 2, 5]), [((1, 2), 0, None)])
        self.assertEqual(sum_plan(NET, [2, 1], [1] * 6, [1, 2, 5]), ("left", (1, 2)))

    def test_the_least_make_with_which_the_sum_comes(self):
        three = ((), (), ())
        self.assertEqual(sum_book(three, range(3), [0, 0, 0])[2], ((0, 1, 2), 0, 0))
        self.assertEqual(sum_book(three, range(3), [0, 0, 0], [0])[2], ((0, 1, 2), 0, 1))
        self.assertEqual(sum_book(three, range(3), [1, 1, 1])[2], ((0, 1, 2), 5, 0))
        self.assertEqual(sum_book(three, range(3), [1, 1, 2])[2], ((0, 1, 2), 6, 2))
        self.assertEqual(sum_book(three, range(3), [1, 1, 2], None, [1, 1, 2])[2], ((0, 1, 2), 7, 0))
        self.assertEqual(sum_book(three, range(3), [1, 1, 2], None, [2, 1, 2])[2], ((0, 1, 2), 10, 1))

    def test_the_least_sum_may_ask_for_more_at_worst(self):
        # The heavy first one is found at once, the others each by one more trial.
        weights = [100, 1, 1, 1]
        self.assertEqual(least_sum(line(4), range(4), weights), 103 + 3 + 2)
        self.assertEqual(sum_plan(line(4), range(4), weights)[1:3], (0, ("left", (0,))))

    def test_by_chance(self):
        chance = random.Random(3)
        for _ in range(200):
            case = some_case(chance)
            told = self.told(sum_book, *case)
            self.assertEqual(told, book_by_words(*case))
            sums = {makes: least for makes, least, _ in told}
            self.assertEqual(self.told(least_sum, *case), sums[tuple(sorted(set(case[1])))])

    def test_kinds_of_what_is_told(self):
        told = sum_book(NET, [0, 1, 4], [1] * 6)
        self.assertIs(type(told), list)
        for entry in told:
            self.assertEqual([type(entry), type(entry[0]), type(entry[1])], [tuple, tuple, int])
            self.assertIn(type(entry[2]), (int, type(None)))

    def test_told_lists_are_new_ones(self):
        for makes in ([0, 1, 4], [3]):
            first, second = (sum_book(NET, makes, [1] * 6) for _ in range(2))
            first.append(9)
            self.assertEqual(sum_book(NET, makes, [1] * 6), second)

    def test_what_may_be_left_out(self):
        makes, weights = [4, 0, 2, 1, 0], [1, 2, 3, 4, 5, 6]
        for call in (sum_book, least_sum, sum_plan):
            told = call(NET, makes, weights)
            self.assertEqual(call(NET, makes, weights, None, None), told)
            self.assertEqual(call(NET, makes, weights, [], [1] * 6), told)
            self.assertEqual(call(NET, tuple(makes), tuple(weights), (), (1,) * 6), told)
            self.assertEqual(call(NET, makes, weights, prices=[2] * 6), call(NET, makes, weights, None, [2] * 6))
            self.assertEqual(call(NET, makes, weights, barred=[4, 0, 4]), call(NET, makes, weights, (0, 4)))

    def test_makes_in_any_order(self):
        for call in (sum_book, least_sum, sum_plan):
            told = call(NET, [0, 2, 3, 4], [3, 0, 1, 4, 1, 5])
            for order in itertools.permutations([0, 2, 3, 4]):
                self.assertEqual(call(NET, [*order, order[0]], [3, 0, 1, 4, 1, 5]), told)


class LeastSumTest(Asking):
    def test_all_ways(self):
        chance = random.Random(4)
        for _ in range(150):
            net, makes, weights, barred, prices = some_case(chance, 5)
            self.assertEqual(
                least_sum(net, makes, weights, barred, prices),
                sum_by_all_ways(net, sorted(set(makes)), weights, barred, prices))

    def test_it_is_the_least_sum_of_all_plans_over_small_nets(self):
        chance = random.Random(5)
        for net in small_nets(4):
            for makes in subsets(range(len(net)))[1:]:
                for barred in (None, some_makes(chance, net)[:2]):
                    weights, prices = some_weights(chance, net), some_prices(chance, net)
                    self.assertEqual(
                        least_sum(net, makes, weights, barred, prices),
                        min(sum_of(plan, weights, prices) for plan in all_plans(net, makes, barred)))

    def test_which_numbers_the_makes_have_changes_no_sum(self):
        chance = random.Random(6)
        for _ in range(100):
            net, makes, weights, barred, prices = some_case(chance)
            order = some_order(chance, net)
            moved = {make: place for place, make in enumerate(order)}
            self.assertEqual(least_sum(net, makes, weights, barred, prices), least_sum(
                renumbered(net, order), [moved[make] for make in makes],
                [weights[make] for make in order],
                None if barred is None else [moved[make] for make in barred],
                None if prices is None else [prices[make] for make in order]))


class SumPlanTest(Asking):
    def test_it_is_a_plan_with_the_least_sum(self):
        chance = random.Random(7)
        for _ in range(200):
            net, makes, weights, barred, prices = some_case(chance)
            plan = self.told(sum_plan, net, makes, weights, barred, prices)
            self.assertIs(plan_asked(net, stand_of(makes), plan, barred), True)
            self.assertEqual(
                sum_of(plan, weights, prices), least_sum(net, makes, weights, barred, prices))

    def test_it_tries_at_each_set_the_make_of_the_book(self):
        chance = random.Random(8)
        for _ in range(100):
            case = some_case(chance)
            book = {makes: make for makes, _, make in sum_book(*case)}
            todo = [(tuple(sorted(set(case[1]))), sum_plan(*case))]
            while todo:
                makes, plan = todo.pop()
                if book[makes] is None:
                    self.assertEqual(plan, ("left", makes))
                else:
                    self.assertEqual(plan[:2], ("try", book[makes]))
                    todo += zip(sides(case[0], makes, plan[1]), plan[2:])

    def test_it_leads_to_where_badness_began(self):
        chance = random.Random(9)
        for _ in range(200):
            net, makes, weights, barred, prices = some_case(chance)
            plan = sum_plan(net, makes, weights, barred, prices)
            for first in makes:
                left = led(net, plan, first)[1]
                self.assertIn(first, left)
                self.assertTrue(settled(net, left, barred))


class TooGreatTest(Asking):
    def too_great(self, many, *given):
        for call in (sum_book, least_sum, sum_plan):
            self.refused(TooGreat, {"many": many}, call, *given)

    def test_more_than_ten(self):
        for net in (line(12), ((),) * 12, full_net(40)):
            for many in (11, 12):
                weights = [0] * len(net)
                self.too_great(many, net, list(range(many)), weights)
                self.too_great(many, net, [*range(many), 0, 3], weights, [11], [2] * len(net))

    def test_just_ten(self):
        for makes in (range(10), [*range(10), *range(10)]):
            self.assertEqual(least_sum(line(10), makes, [1] * 10), 6 * 3 + 4 * 4)
        self.assertEqual(least_sum(line(40), range(30, 40), [0] * 30 + [1] * 10), 34)

    def test_alike_ones_count_each(self):
        self.too_great(12, line(12), range(12), [1] * 12, [0, 1, 2, 3, 4, 5, 6, 7, 8, 9])

    def test_settled_ones_are_never_too_great(self):
        for many in (11, 40):
            makes, barred = list(range(many)), list(range(39))
            self.assertEqual(
                sum_book(line(40), makes, [1] * 40, barred), [(tuple(makes), 0, None)])
            self.assertEqual(least_sum(line(40), makes, [1] * 40, barred), 0)
            self.assertEqual(sum_plan(line(40), makes, [1] * 40, barred), ("left", tuple(makes)))


class OnceTest(Asking):
    """What comes up again within one asking is reckoned once."""

    def test_ten_makes_that_can_be_parted_every_way(self):
        net = ((),) * 10 + tuple(
            tuple(make for make in range(10) if (37 * place + 11) >> make & 1) for place in range(30))
        weights = [3 ** make for make in range(40)]
        with within(60):
            book = sum_book(net, range(10), weights)
            self.assertEqual(len(book), 2 ** 10 - 1)
            least = least_sum(net, range(10), weights)
            self.assertEqual(sum_of(sum_plan(net, range(10), weights), weights), least)
            self.assertIs(sum_asked(net, range(10), weights, book), True)

    def test_ten_makes_that_only_they_themselves_part(self):
        with within(60):
            self.assertEqual(len(sum_book(((),) * 10, range(10), [1] * 10)), 2 ** 10 - 1)
            self.assertEqual(least_sum(((),) * 10, range(10), [1] * 10), sum(range(1, 10)) + 9)


if __name__ == "__main__":
    unittest.main()
