"""Points 2, 7, 16, 18 and 19: the worst of plans, their leaves, plans followed and led."""

import itertools
import random
import unittest

from badbegins import plans as plans_file
from badbegins.errors import NoMake
from badbegins.plans import followed, leaves_of, led, worst_of
from badbegins.trials import true_answer

from helping import BIG, Asking, line, long_plan, paths_of, some_net, some_plan

NET = ((), (0,), (0,), (1, 2), (), (2, 4))
LEFT = ("left", (1, 3))
#  3 bad: 1 bad: 0, 1; 1 good: 2 bad: 2, good: 3. 3 good: 4 bad: 4; good: 5.
PLAN = (
    "try", 3,
    ("try", 1, ("left", (0, 1)), ("try", 2, ("left", (2,)), ("left", (3,)))),
    ("try", 4, ("left", (4,)), ("left", (5,))),
)


class WorstTest(Asking):
    def test_defined_here(self):
        for call in (worst_of, leaves_of, followed, led):
            self.assertEqual(call.__module__, plans_file.__name__)

    def test_of_a_plan_that_is_only_left(self):
        self.assertEqual(worst_of(LEFT), 0)
        self.assertEqual(worst_of(LEFT, [7] * 6), 0)
        self.assertEqual(worst_of(("left", ())), 0)

    def test_without_prices_each_try_costs_one(self):
        self.assertEqual(worst_of(PLAN), 3)
        self.assertEqual(worst_of(PLAN, None), 3)
        self.assertEqual(worst_of(PLAN, [1] * 6), 3)
        self.assertEqual(worst_of(PLAN[3]), 1)

    def test_with_prices(self):
        self.assertEqual(self.told(worst_of, PLAN, [1, 2, 3, 10, 4, 5]), 15)
        self.assertEqual(worst_of(PLAN, [1, 2, 3, 10, 6, 5]), 16)
        self.assertEqual(worst_of(PLAN, (1, 2, 3, 10, 5, 5)), 15)
        great = 10 ** 30
        self.assertEqual(worst_of(PLAN, [great] * 6), 3 * great)

    def test_some_plans(self):
        chance = random.Random(1)
        for _ in range(300):
            net = some_net(chance, 6)
            plan = some_plan(chance, net, 5)
            prices = [chance.choice([1, 2, 3, 10 ** 30]) for _ in net]
            self.assertEqual(worst_of(plan), max(len(path) for path, _, _ in paths_of(plan)))
            self.assertEqual(self.told(worst_of, plan, prices), max(
                sum(prices[make] for make in tried) for _, tried, _ in paths_of(plan)))

    def test_sixty_tries_within_one_another(self):
        for deep in ("bad", "good"):
            self.assertEqual(worst_of(long_plan(60, deep)), 60)
            self.assertEqual(worst_of(long_plan(60, deep), [1, 5]), 300)


class LeavesTest(Asking):
    def test_of_a_plan_that_is_only_left(self):
        self.assertEqual(leaves_of(LEFT), [((), (1, 3))])
        self.assertEqual(leaves_of(("left", ())), [((), ())])

    def test_bad_ones_first(self):
        self.assertEqual(self.told(leaves_of, PLAN), [
            (("bad", "bad"), (0, 1)),
            (("bad", "good", "bad"), (2,)),
            (("bad", "good", "good"), (3,)),
            (("good", "bad"), (4,)),
            (("good", "good"), (5,)),
        ])

    def test_kinds_of_what_is_told(self):
        told = leaves_of(PLAN)
        self.assertIs(type(told), list)
        for leaf in told:
            self.assertEqual([type(leaf), type(leaf[0]), type(leaf[1])], [tuple] * 3)

    def test_told_lists_are_new_ones(self):
        first = leaves_of(PLAN)
        first.clear()
        self.assertEqual(len(leaves_of(PLAN)), 5)
        left = leaves_of(LEFT)
        left.clear()
        self.assertEqual(leaves_of(LEFT), [((), (1, 3))])

    def test_some_plans(self):
        chance = random.Random(2)
        for _ in range(300):
            plan = some_plan(chance, line(6), 5)
            self.assertEqual(leaves_of(plan), [(path, makes) for path, _, makes in paths_of(plan)])

    def test_sixty_tries_within_one_another(self):
        told = leaves_of(long_plan(60, "good"))
        self.assertEqual(told, [
            *[(("good",) * many + ("bad",), (1,)) for many in range(60)], (("good",) * 60, (0,))])
        self.assertEqual(leaves_of(long_plan(60, "bad"))[0], (("bad",) * 60, (0,)))


class FollowedTest(Asking):
    def test_as_far_as_tries_last(self):
        self.assertEqual(
            self.told(followed, PLAN, ["bad", "good", "bad", "bad", "good"]), ([3, 1, 2], ("left", (2,)), 3))
        self.assertEqual(followed(PLAN, ["good", "good"]), ([3, 4], ("left", (5,)), 2))
        self.assertEqual(followed(PLAN, ["good"] * 200), ([3, 4], ("left", (5,)), 2))

    def test_as_far_as_answers_last(self):
        self.assertEqual(followed(PLAN, []), ([], PLAN, 0))
        self.assertEqual(followed(PLAN, ()), ([], PLAN, 0))
        self.assertEqual(followed(PLAN, ["bad"]), ([3], PLAN[2], 1))
        self.assertEqual(followed(PLAN, ("bad", "good")), ([3, 1], PLAN[2][3], 2))

    def test_a_plan_that_is_only_left(self):
        self.assertEqual(followed(LEFT, []), ([], LEFT, 0))
        self.assertEqual(followed(LEFT, ["bad", "good"]), ([], LEFT, 0))

    def test_kinds_of_what_is_told(self):
        for answers in ([], ["bad"], ["bad"] * 9):
            told = followed(PLAN, answers)
            self.assertEqual([type(thing) for thing in told], [list, tuple, int])
            self.assertIs(type(told), tuple)

    def test_told_lists_are_new_ones(self):
        for answers in ([], ["bad"]):
            first, second = followed(PLAN, answers), followed(PLAN, answers)
            first[0].append(9)
            self.assertEqual(followed(PLAN, answers), second)

    def test_each_leaf_by_its_path(self):
        chance = random.Random(3)
        for _ in range(200):
            plan = some_plan(chance, line(6), 4)
            for path, tried, makes in paths_of(plan):
                for more in ([], ["bad"], ["good", "bad"]):
                    self.assertEqual(
                        followed(plan, [*path, *more]), (list(tried), ("left", makes), len(path)))

    def test_sixty_tries_within_one_another(self):
        self.assertEqual(
            followed(long_plan(60, "good"), ["good"] * 200), ([1] * 60, ("left", (0,)), 60))


class LedTest(Asking):
    def test_by_true_answers(self):
        told = [led(NET, PLAN, first) for first in range(6)]
        self.assertEqual(told, [
            ([3, 1], (0, 1)), ([3, 1], (0, 1)), ([3, 1, 2], (2,)), ([3, 1, 2], (3,)),
            ([3, 4], (4,)), ([3, 4], (5,))])

    def test_a_plan_that_is_only_left(self):
        for first in range(6):
            self.assertEqual(self.told(led, NET, LEFT, first), ([], (1, 3)))

    def test_kinds_and_new_lists(self):
        for plan in (PLAN, LEFT):
            first, second = led(NET, plan, 0), led(NET, plan, 0)
            self.assertEqual([type(first), type(first[0]), type(first[1])], [tuple, list, tuple])
            first[0].append(9)
            self.assertEqual(led(NET, plan, 0), second)

    def test_some_plans(self):
        chance = random.Random(4)
        for _ in range(200):
            net = some_net(chance, 6)
            plan = some_plan(chance, net, 4)
            for first in range(len(net)):
                tried, makes = self.told(led, net, plan, first)
                answers = [true_answer(net, first, make) for make in tried]
                self.assertEqual(followed(plan, answers), (tried, ("left", makes), len(tried)))

    def test_sixty_tries_within_one_another(self):
        self.assertEqual(led(line(2), long_plan(60, "bad"), 1), ([1] * 60, (0,)))
        self.assertEqual(led(((), ()), long_plan(60, "good"), 0), ([1] * 60, (0,)))

    def test_no_make(self):
        for none in (-1, -6, 6, 40, BIG, -BIG):
            for plan in (PLAN, LEFT, ("left", ())):
                self.refused(NoMake, {"make": none}, led, NET, plan, none)


class OrderTest(unittest.TestCase):
    def test_the_same_in_whichever_order_asked(self):
        asked = [
            (worst_of, (PLAN,)), (worst_of, (PLAN, [1, 2, 3, 10, 4, 5])), (leaves_of, (PLAN,)),
            (followed, (PLAN, ["bad"])), (led, (NET, PLAN, 2)),
        ]
        told = [call(*given) for call, given in asked]
        for order in itertools.permutations(range(len(asked))):
            for place in order:
                call, given = asked[place]
                self.assertEqual(call(*given), told[place])


if __name__ == "__main__":
    unittest.main()
