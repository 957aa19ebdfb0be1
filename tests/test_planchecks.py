"""Points 2, 16 and 17: whether anything is a plan for a stand."""

import random
import unittest

from badbegins import planchecks
from badbegins.apart import settled, useful
from badbegins.errors import NoPlan
from badbegins.planchecks import plan_asked
from badbegins.stands import behind, makes_of, stand_of

from helping import (
    BIG, Asking, great_things, led_with_lies, line, some_makes, some_net, some_thing, within)

NET = ((), (0,), (0,), (1, 2), (), (2, 4))
STAND = stand_of(range(6))
PLAN = (
    "try", 3,
    ("try", 1,
     ("try", 0, ("left", (0,)), ("left", (1,))),
     ("try", 2, ("left", (2,)), ("left", (3,)))),
    ("try", 4, ("left", (4,)), ("left", (5,))),
)


def is_whole_tuple(thing):
    return isinstance(thing, tuple) and all(type(one) is int for one in thing)


def word_of(net, stand, part, barred, lies):
    """The word for the topmost place alone, as 17 tells it, or None."""
    if not isinstance(part, tuple) or len(part) not in (2, 4):
        return "shape"
    if len(part) == 2:
        if part[0] != "left" or not is_whole_tuple(part[1]):
            return "shape"
        if not settled(net, makes_of(stand), barred):
            return "open"
        return None if part[1] == makes_of(stand) else "left"
    if part[0] != "try" or type(part[1]) is not int:
        return "shape"
    if part[1] not in range(len(net)):
        return "make"
    if part[1] in (barred or []):
        return "barred"
    return None if part[1] in useful(net, makes_of(stand), barred) else "useless"


def fault_of(net, stand, part, barred, lies):
    """The path and the word with which it is to be refused, or None."""
    word = word_of(net, stand, part, barred, lies)
    if word is not None:
        return (), word
    if part[0] == "left":
        return None
    for answer, inner in (("bad", part[2]), ("good", part[3])):
        fault = fault_of(net, behind(net, stand, part[1], answer, lies), inner, barred, lies)
        if fault is not None:
            return (answer, *fault[0]), fault[1]
    return None


def chance_plan(chance, net, stand, barred, lies):
    """A right plan for the stand, its useful makes taken by chance."""
    makes = useful(net, makes_of(stand), barred)
    if not makes:
        return ("left", makes_of(stand))
    make = chance.choice(makes)
    return (
        "try", make,
        chance_plan(chance, net, behind(net, stand, make, "bad", lies), barred, lies),
        chance_plan(chance, net, behind(net, stand, make, "good", lies), barred, lies))


def bent(chance, thing):
    """The thing with something within it changed, by chance."""
    if not isinstance(thing, tuple) or not thing or chance.random() < 0.25:
        return chance.choice([
            some_thing(chance, 2), ("left", (0,)), ("left", ()), ("left", (1, 0)), ("try", 0, 1, 2),
            chance.randint(-1, 6), list(thing) if isinstance(thing, tuple) else [thing]])
    place = chance.randrange(len(thing))
    return thing[:place] + (bent(chance, thing[place]),) + thing[place + 1:]


def some_case(chance):
    net = some_net(chance, 5)
    lies = chance.choice([0, 0, 0, 1])
    makes = some_makes(chance, net, 1)
    barred = chance.choice([None, None, [], some_makes(chance, net)])
    return net, stand_of(makes), barred, lies


class PlanCase(Asking):
    def no_plan(self, path, word, net, stand, *given):
        self.refused(NoPlan, {"path": path, "word": word}, plan_asked, net, stand, *given)

    def as_told(self, net, stand, plan, barred, lies):
        fault = fault_of(net, stand, plan, barred, lies)
        if fault is None:
            self.assertIs(self.told(plan_asked, net, stand, plan, barred, lies), True)
        else:
            self.no_plan(fault[0], fault[1], net, stand, plan, barred, lies)


class RightPlanTest(PlanCase):
    def test_defined_here(self):
        self.assertEqual(plan_asked.__module__, planchecks.__name__)

    def test_plans(self):
        self.assertIs(plan_asked(NET, STAND, PLAN), True)
        self.assertIs(plan_asked(NET, STAND, PLAN, None, 0), True)
        self.assertIs(plan_asked(NET, STAND, PLAN, []), True)
        self.assertIs(plan_asked(NET, STAND, PLAN, [5]), True)
        self.assertIs(plan_asked(NET, ((3, 0),), ("left", (3,))), True)
        self.assertIs(plan_asked(NET, ((3, 1),), ("left", (3,)), None, 1), True)

    def test_left_is_all_that_barred_ones_leave_alike(self):
        net = ((), (0,), (0,), (1,), ())
        barred = [0, 1, 0]
        plan = (
            "try", 3, ("try", 2, ("left", (0,)), ("left", (1, 3))),
            ("try", 4, ("left", (4,)), ("left", (2,))))
        self.assertIs(plan_asked(net, stand_of(range(5)), plan, barred), True)
        self.assertIs(plan_asked(net, stand_of(range(5)), plan, tuple(barred)), True)
        self.no_plan(("bad", "good"), "open", net, stand_of(range(5)), plan)
        self.assertIs(plan_asked(NET, STAND, ("left", (0, 1, 2, 3, 4, 5)), range(6)), True)

    def test_with_lies_the_stands_behind_are_left(self):
        net = ((), (0,))
        again = ("try", 0, ("left", (0,)), ("left", (1,)))
        plan = ("try", 0, ("try", 0, ("left", (0,)), again), ("try", 0, again, ("left", (1,))))
        self.assertIs(plan_asked(net, stand_of([0, 1]), plan, None, 1), True)
        self.no_plan(("bad",), "useless", net, stand_of([0, 1]), plan)
        self.no_plan(("bad",), "useless", net, stand_of([0, 1]), plan, None, 0)
        self.no_plan(("bad", "bad"), "open", net, stand_of([0, 1]), plan, None, 2)
        self.assertIs(plan_asked(net, ((0, 0), (1, 1)), plan[2], None, 1), True)
        self.no_plan(("bad",), "open", net, stand_of([0, 1]), again, None, 1)

    def test_plans_by_chance(self):
        chance = random.Random(1)
        for _ in range(300):
            net, stand, barred, lies = some_case(chance)
            plan = chance_plan(chance, net, stand, barred, lies)
            self.assertIs(self.told(plan_asked, net, stand, plan, barred, lies), True)

    def test_forty_makes(self):
        net = line(40)
        plan = ("left", (39,))
        for make in range(38, -1, -1):
            plan = ("try", make, ("left", (make,)), plan)
        with within(60):
            self.assertIs(plan_asked(net, stand_of(range(40)), plan), True)
            bent_plan = with_end(plan, ("good",) * 39, ("left", (38,)))
            self.no_plan(("good",) * 39, "left", net, stand_of(range(40)), bent_plan)

    def test_sixty_tries_within_one_another(self):
        net = line(31)
        stand = stand_of(range(31))
        plan = straight_plan(net, stand, 1)
        path = ("good",) * 60
        with within(60):
            self.assertIs(plan_asked(net, stand, plan, None, 1), True)
            for word, inner in (("left", ("left", (29,))), ("useless", plan), ("shape", ["left", (30,)])):
                self.no_plan(path, word, net, stand, with_end(plan, path, inner), None, 1)


class BentPlanTest(PlanCase):
    def test_shape(self):
        for part in (
            None, True, False, 0, 3, BIG, "", "left", "try", [], (), ("left",), ("try",), ("left", (3,), ()),
            ["left", (3,)], ("left", [3]), ("left", 3), ("left", None), ("left", "3"), ("left", (True,)),
            ("left", (False, 1)), ("left", ("3",)), ("left", ((3,),)), ("left", (3, None)), ("Left", (3,)),
            ("try", (3,)), ("left ", (3,)), (None, (3,)), (("left",), (3,)), ("try", 3, LEFT), ("try", 3),
            ["try", 3, LEFT, LEFT], ("try", 3, LEFT, LEFT, LEFT), ("left", 3, LEFT, LEFT),
            ("try", True, LEFT, LEFT), ("try", False, LEFT, LEFT), ("try", "3", LEFT, LEFT),
            ("try", None, LEFT, LEFT), ("try", (3,), LEFT, LEFT), ("try", [3], LEFT, LEFT),
            (True, 3, LEFT, LEFT), (3, "try", LEFT, LEFT), ((), (), (), ()),
        ):
            with self.subTest(part):
                for stand in (STAND, ((3, 0),)):
                    self.no_plan((), "shape", NET, stand, part)
                self.no_plan(("bad", "good", "bad"), "shape", NET, STAND, with_end(
                    PLAN, ("bad", "good", "bad"), part))

    def test_open(self):
        for makes in ((), (0,), tuple(range(6)), (5, 4, 3, 2, 1, 0), (-1,), (BIG,)):
            self.no_plan((), "open", NET, STAND, ("left", makes))
            self.no_plan(("good",), "open", NET, STAND, with_end(PLAN, ("good",), ("left", makes)))
        self.no_plan((), "open", NET, ((1, 0), (2, 0)), ("left", (1, 2)), [1, 2])
        self.assertIs(plan_asked(NET, ((1, 0), (2, 0)), ("left", (1, 2)), [1, 2, 5]), True)

    def test_left(self):
        barred = [1, 2, 5]
        stand = stand_of([1, 2])
        for makes in (
            (), (1,), (2,), (2, 1), (1, 1, 2), (1, 2, 2), (0, 1, 2), (1, 2, 3), (-1,), (6,), (1, BIG),
        ):
            self.no_plan((), "left", NET, stand, ("left", makes), barred)
        self.assertIs(plan_asked(NET, stand, ("left", (1, 2)), barred), True)
        path = ("good", "good")
        for makes in ((), (4,), (5, 5), (4, 5)):
            self.no_plan(path, "left", NET, STAND, with_end(PLAN, path, ("left", makes)))

    def test_make(self):
        for make in (-1, -6, 6, 7, 40, BIG, -BIG):
            for barred in (None, [3], range(6)):
                self.no_plan((), "make", NET, STAND, ("try", make, PLAN[2], PLAN[3]), barred)
            self.no_plan(("good",), "make", NET, STAND, with_end(PLAN, ("good",), ("try", make, LEFT, LEFT)))

    def test_barred(self):
        self.no_plan((), "barred", NET, STAND, PLAN, [3])
        self.no_plan((), "barred", NET, STAND, PLAN, (5, 3, 3))
        self.no_plan(("bad",), "barred", NET, STAND, PLAN, [1, 2, 4])
        self.no_plan(("bad", "good"), "barred", NET, STAND, PLAN, [2, 4])
        self.no_plan(("good",), "barred", NET, STAND, PLAN, [4])
        # Barred goes ahead of useless.
        self.no_plan((), "barred", NET, ((3, 0),), PLAN, [3])

    def test_useless(self):
        self.no_plan((), "useless", NET, ((3, 0),), PLAN)
        self.no_plan((), "useless", NET, stand_of([4, 5]), PLAN)
        self.no_plan((), "useless", NET, stand_of([0, 1, 2, 3]), PLAN)
        for path in (("bad",), ("good",), ("bad", "good")):
            self.no_plan(path, "useless", NET, STAND, with_end(PLAN, path, PLAN))

    def test_the_first_place_in_order(self):
        worse = [
            (("bad",), LEFT, "open"), (("bad", "bad"), LEFT, "open"), (("bad", "bad", "bad"), LEFT, "left"),
            (("bad", "bad", "good"), None, "shape"), (("bad", "good"), ("try", 9, 0, 0), "make"),
            (("bad", "good", "good"), ("left", (2,)), "left"), (("good",), ("try", 0, LEFT, LEFT), "useless"),
            (("good", "bad"), LEFT, "left"), (("good", "good"), 7, "shape"),
        ]
        for first in range(len(worse)):
            plan = PLAN
            for path, inner, _ in reversed(worse[first:]):
                plan = with_end(plan, path, inner) if has_path(plan, path) else plan
            path, _, word = worse[first]
            self.no_plan(path, word, NET, STAND, plan)

    def test_what_stands_behind_a_fault_is_not_asked(self):
        self.no_plan((), "make", NET, STAND, ("try", 6, None, "x"))
        self.no_plan((), "useless", NET, ((0, 0),), ("try", 0, None, "x"))
        self.no_plan((), "barred", NET, STAND, ("try", 0, 0, 0), [0])

    def test_plans_bent_by_chance(self):
        chance = random.Random(2)
        refused = 0
        for _ in range(3000):
            net, stand, barred, lies = some_case(chance)
            plan = bent(chance, chance_plan(chance, net, stand, barred, lies))
            if chance.random() < 0.3:
                plan = bent(chance, plan)
            self.as_told(net, stand, plan, barred, lies)
            refused += fault_of(net, stand, plan, barred, lies) is not None
        self.assertGreater(refused, 2000)

    def test_plans_for_other_stands(self):
        chance = random.Random(3)
        for _ in range(500):
            net, stand, barred, lies = some_case(chance)
            other = stand_of(some_makes(chance, net, 1))
            self.as_told(net, other, chance_plan(chance, net, stand, barred, lies), barred, lies)
            self.as_told(net, stand, chance_plan(chance, net, stand, None, lies), barred, lies)
            self.as_told(net, stand, chance_plan(chance, net, stand, barred, 0), barred, lies)

    def test_anything_at_all(self):
        chance = random.Random(4)
        for _ in range(2000):
            self.as_told(NET, STAND, some_thing(chance, 5), None, 0)
        with within(60):
            for thing in great_things():
                self.as_told(NET, STAND, thing, None, 0)
                for plan in (("left", thing), ("try", 3, thing, PLAN[3]), ("try", 3, PLAN[2], thing),
                             ("try", thing, LEFT, LEFT), (thing, (3,)), (thing, 3, LEFT, LEFT)):
                    self.as_told(NET, STAND, plan, None, 0)
                    self.as_told(NET, ((3, 0),), plan, None, 0)

    def test_tries_within_one_another_that_are_useless(self):
        plan = ("left", (0,))
        for _ in range(60):
            plan = ("try", 0, plan, plan)
        with within(60), self.assertRaises(NoPlan) as held:
            plan_asked(line(2), stand_of([0, 1]), plan)
        self.assertEqual(vars(held.exception), {"path": ("bad",), "word": "useless"})


class LeadingTest(Asking):
    """Point 3: whichever trials lie, so long as no more do, plans lead to where badness began."""

    def test_plans_let_by_lead_there(self):
        chance = random.Random(5)
        for _ in range(400):
            net, stand, barred, lies = some_case(chance)
            first, many = chance.choice(stand)
            plan = chance_plan(chance, net, stand, barred, lies)
            self.assertIs(plan_asked(net, stand, plan, barred, lies), True)
            _, makes = led_with_lies(chance, net, plan, first, lies - many)
            self.assertIn(first, makes)
            self.assertTrue(settled(net, makes, barred))


LEFT = ("left", (3,))


def has_path(plan, path):
    for answer in path:
        if plan[0] != "try":
            return False
        plan = plan[2] if answer == "bad" else plan[3]
    return True


def with_end(plan, path, inner):
    """The plan with another thing at the end of the path."""
    if not path:
        return inner
    place = 2 if path[0] == "bad" else 3
    return plan[:place] + (with_end(plan[place], path[1:], inner),) + plan[place + 1:]


def straight_plan(net, stand, lies):
    """The plan for a stand that tries the least useful make."""
    makes = useful(net, makes_of(stand))
    if not makes:
        return ("left", makes_of(stand))
    return (
        "try", makes[0], straight_plan(net, behind(net, stand, makes[0], "bad", lies), lies),
        straight_plan(net, behind(net, stand, makes[0], "good", lies), lies))


if __name__ == "__main__":
    unittest.main()
