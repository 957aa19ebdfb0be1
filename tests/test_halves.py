"""Points 2 and 20: halving makes and halving plans."""

import itertools
import random
import unittest

from badbegins import halves
from badbegins.apart import classes, sides, useful
from badbegins.books import number_of
from badbegins.halves import halving_make, halving_plan
from badbegins.planchecks import plan_asked
from badbegins.plans import leaves_of, worst_of
from badbegins.stands import stand_of

from helping import Asking, full_net, line, some_makes, some_net, within

NET = ((), (0,), (0,), (1, 2), (), (2, 4))


def make_by_halves(net, makes, barred):
    """Point 20 word by word."""
    found = [
        (-min(len(side) for side in sides(net, makes, make)), make)
        for make in useful(net, makes, barred)]
    return min(found)[1] if found else None


class HalvingMakeTest(Asking):
    def test_defined_here(self):
        for call in (halving_make, halving_plan):
            self.assertEqual(call.__module__, halves.__name__)

    def test_the_greatest_lesser_side(self):
        self.assertEqual(halving_make(line(7), range(7)), 2)
        self.assertEqual(halving_make(line(8), list(range(8))), 3)
        self.assertEqual(halving_make(NET, range(6)), 1)
        self.assertEqual(halving_make(NET, [0, 1, 2, 4]), 1)

    def test_of_several_the_least(self):
        self.assertEqual(halving_make(((),) * 5, range(5)), 0)
        self.assertEqual(halving_make(((),) * 5, [4, 2, 3]), 2)
        self.assertEqual(halving_make(((),) * 5, range(5), [0, 1]), 2)
        self.assertEqual(halving_make(line(5), range(5)), 1)

    def test_not_a_barred_one(self):
        self.assertEqual(self.told(halving_make, line(8), [7, 6, 5, 4, 3, 2, 1, 0], [3, 4, 3]), 2)
        self.assertEqual(halving_make(line(8), range(8), (3,)), 2)
        self.assertEqual(halving_make(line(8), range(8), (2, 3)), 4)
        for barred in (None, [], ()):
            self.assertEqual(halving_make(line(8), range(8), barred), 3)

    def test_makes_told_twice_weigh_once(self):
        self.assertEqual(halving_make(line(8), [0, 0, 0, 0, 0, *range(8)]), 3)
        self.assertEqual(halving_make(line(4), [3, 3, 3, 2, 1, 0, 3]), 1)

    def test_none_where_nothing_is_useful(self):
        self.assertIsNone(halving_make(NET, [3]))
        self.assertIsNone(halving_make(NET, [3, 3]))
        self.assertIsNone(halving_make(NET, [1, 2], [1, 2, 5]))
        self.assertIsNone(halving_make(NET, range(6), range(6)))

    def test_some_nets(self):
        chance = random.Random(1)
        for _ in range(500):
            net = some_net(chance, 8)
            makes = some_makes(chance, net, 1)
            barred = chance.choice([None, [], some_makes(chance, net)])
            self.assertEqual(
                self.told(halving_make, net, makes, barred), make_by_halves(net, makes, barred))


class HalvingPlanTest(Asking):
    def plan_is_right(self, net, makes, barred):
        plan = self.told(halving_plan, net, makes, barred)
        self.assertIs(plan_asked(net, stand_of(makes), plan, barred), True)
        self.assertLess(worst_of(plan), len(classes(net, makes, barred)))
        self.tries_are_halving(net, tuple(sorted(set(makes))), plan, barred)
        return plan

    def tries_are_halving(self, net, makes, plan, barred):
        make = make_by_halves(net, makes, barred)
        if make is None:
            self.assertEqual(plan, ("left", makes))
            return
        self.assertEqual(plan[:2], ("try", make))
        for side, part in zip(sides(net, makes, make), plan[2:]):
            self.tries_are_halving(net, side, part, barred)

    def test_plans(self):
        self.assertEqual(halving_plan(line(3), [2, 0, 1, 2]), (
            "try", 0, ("left", (0,)), ("try", 1, ("left", (1,)), ("left", (2,)))))
        self.assertEqual(halving_plan(line(4), range(4)), (
            "try", 1, ("try", 0, ("left", (0,)), ("left", (1,))),
            ("try", 2, ("left", (2,)), ("left", (3,)))))
        self.assertEqual(halving_plan(line(4), (0, 3, 1, 2), [1]), (
            "try", 0, ("left", (0,)), ("try", 2, ("left", (1, 2)), ("left", (3,)))))

    def test_nothing_useful(self):
        self.assertEqual(halving_plan(NET, [4]), ("left", (4,)))
        self.assertEqual(halving_plan(NET, [4, 4]), ("left", (4,)))
        self.assertEqual(halving_plan(NET, [5, 0, 5], range(6)), ("left", (0, 5)))

    def test_some_nets(self):
        chance = random.Random(2)
        for _ in range(400):
            net = some_net(chance, 8)
            makes = some_makes(chance, net, 1)
            self.plan_is_right(net, makes, chance.choice([None, [], some_makes(chance, net)]))

    def test_on_lines_no_plan_needs_fewer(self):
        for many in range(1, 41):
            plan = self.plan_is_right(line(many), range(many), None)
            self.assertEqual(worst_of(plan), (many - 1).bit_length())
            if many <= 10:
                self.assertEqual(worst_of(plan), number_of(line(many), stand_of(range(many))))

    def test_forty_makes(self):
        with within(60):
            for net in (full_net(40), line(40)):
                self.assertEqual(worst_of(self.plan_is_right(net, range(40), None)), 6)
            plan = self.plan_is_right(((),) * 40, list(range(40)), None)
        self.assertEqual(worst_of(plan), 39)
        self.assertEqual([makes for _, makes in leaves_of(plan)], [(make,) for make in range(40)])

    def test_it_may_need_more_than_others(self):
        net = ((), (), (0,), (), (0,), (3, 4))
        self.assertEqual(worst_of(halving_plan(net, range(6))), 4)
        self.assertEqual(number_of(net, stand_of(range(6))), 3)

    def test_no_plan_is_better_than_the_least(self):
        chance = random.Random(3)
        for _ in range(200):
            net = some_net(chance, 8)
            makes = some_makes(chance, net, 1)
            self.assertGreaterEqual(
                worst_of(halving_plan(net, makes)), number_of(net, stand_of(makes)))

    def test_makes_in_any_order(self):
        for order in itertools.permutations([0, 2, 3, 4]):
            self.assertEqual(halving_plan(NET, order), halving_plan(NET, [0, 2, 3, 4]))


if __name__ == "__main__":
    unittest.main()
