"""Points 2, 7, 12, 13, 14 and 15: sides, parts, useful makes, what is alike and settled."""

import itertools
import random
import unittest

from badbegins import apart
from badbegins.apart import classes, parting, parts, settled, sides, useful
from badbegins.errors import NoMake
from badbegins.stands import known, makes_of
from badbegins.trials import true_answer

from helping import BIG, Asking, comes, full_net, line, small_nets, some_makes, some_net, subsets, within

NET = ((), (0,), (0,), (1, 2), (), (2, 4))
NO_MAKES = (-1, -2, -6, 6, 7, 40, BIG, -BIG)


def some_barred(chance, net):
    return chance.choice([None, [], some_makes(chance, net)])


class SidesTest(Asking):
    def test_defined_here(self):
        for call in (sides, parts, useful, parting, classes, settled):
            self.assertEqual(call.__module__, apart.__name__)

    def test_those_of_which_it_comes_and_the_others(self):
        self.assertEqual(sides(NET, [0, 1, 2, 3, 4, 5], 5), ((0, 2, 4, 5), (1, 3)))
        self.assertEqual(sides(NET, [1, 3], 5), ((), (1, 3)))
        self.assertEqual(sides(NET, [0, 4], 5), ((0, 4), ()))

    def test_makes_in_any_order_and_twice(self):
        for order in itertools.permutations([0, 1, 4]):
            self.assertEqual(self.told(sides, NET, [*order, 1, 4], 3), ((0, 1), (4,)))
            self.assertEqual(sides(NET, order, 3), ((0, 1), (4,)))

    def test_no_makes(self):
        self.assertEqual(sides(NET, [], 3), ((), ()))
        self.assertEqual(sides(NET, (), 3), ((), ()))
        self.assertIs(parts(NET, [], 3), False)

    def test_kinds_of_what_is_told(self):
        told = sides(NET, [0, 4], 3)
        self.assertEqual([type(told), type(told[0]), type(told[1])], [tuple] * 3)

    def test_parts(self):
        self.assertIs(parts(NET, [0, 4], 3), True)
        self.assertIs(parts(NET, [4, 0, 0], 3), True)
        self.assertIs(parts(NET, [0, 1], 3), False)
        self.assertIs(parts(NET, [4, 5], 3), False)
        self.assertIs(parts(NET, [3], 3), False)
        self.assertIs(parts(NET, [3, 3], 3), False)

    def test_every_small_net(self):
        for net in small_nets(4):
            for makes in subsets(range(len(net))):
                for make in range(len(net)):
                    bad = tuple(one for one in makes if comes(net, make, one))
                    good = tuple(one for one in makes if not comes(net, make, one))
                    self.assertEqual(sides(net, list(makes), make), (bad, good))
                    self.assertIs(parts(net, list(makes), make), bool(bad and good))

    def test_no_make(self):
        for none in NO_MAKES:
            for makes in ([], [0], [0, 1, 4]):
                self.refused(NoMake, {"make": none}, sides, NET, makes, none)
                self.refused(NoMake, {"make": none}, parts, NET, makes, none)


class UsefulTest(Asking):
    def test_all_that_part_rising(self):
        self.assertEqual(useful(NET, [0, 4]), [0, 1, 2, 3, 4])
        self.assertEqual(useful(NET, [1, 2]), [1, 2, 5])
        self.assertEqual(useful(NET, [2, 1, 1, 2]), [1, 2, 5])
        self.assertEqual(useful(NET, (3, 5)), [3, 5])

    def test_not_the_barred_ones(self):
        self.assertEqual(self.told(useful, NET, [0, 4], [4, 1, 4]), [0, 2, 3])
        self.assertEqual(useful(NET, [0, 4], (4, 1)), [0, 2, 3])
        self.assertEqual(useful(NET, [0, 4], [5]), [0, 1, 2, 3, 4])
        self.assertEqual(useful(NET, [0, 4], [0, 1, 2, 3, 4, 5]), [])
        for barred in (None, [], ()):
            self.assertEqual(useful(NET, [0, 4], barred), useful(NET, [0, 4]))

    def test_of_one_and_of_none(self):
        for make in range(6):
            self.assertEqual(useful(NET, [make]), [])
            self.assertEqual(useful(NET, [make, make]), [])
        self.assertEqual(useful(NET, []), [])
        self.assertEqual(useful(NET, ()), [])

    def test_told_lists_are_new_ones(self):
        for makes in ([0, 4], []):
            first = useful(NET, makes)
            second = useful(NET, makes)
            first.append(9)
            self.assertNotEqual(first, second)
            self.assertEqual(useful(NET, makes), second)

    def test_some_nets(self):
        chance = random.Random(1)
        for _ in range(400):
            net = some_net(chance, 8)
            makes, barred = some_makes(chance, net), some_barred(chance, net)
            told = self.told(useful, net, makes, barred)
            self.assertIs(type(told), list)
            self.assertEqual(told, [
                make for make in range(len(net))
                if make not in (barred or []) and parts(net, makes, make)])


class PartingTest(Asking):
    def test_the_least_that_comes_of_just_one(self):
        self.assertEqual(parting(NET, 0, 4), 0)
        self.assertEqual(parting(NET, 4, 5), 4)
        self.assertEqual(parting(NET, 3, 5), 3)
        self.assertEqual(parting(NET, 1, 2), 1)
        self.assertEqual(parting(NET, 2, 1), 1)

    def test_with_barred_ones(self):
        self.assertEqual(self.told(parting, NET, 1, 2, [1]), 2)
        self.assertEqual(parting(NET, 1, 2, [2, 1, 2]), 5)
        self.assertEqual(parting(NET, 1, 2, (1, 2)), 5)
        self.assertIsNone(parting(NET, 1, 2, [1, 2, 5]))
        self.assertEqual(parting(NET, 2, 1, []), 1)

    def test_one_with_itself(self):
        for make in range(6):
            self.assertIsNone(parting(NET, make, make))

    def test_without_barred_ones_no_two_are_alike(self):
        for net in small_nets(4):
            for one, other in itertools.permutations(range(len(net)), 2):
                self.assertIsNotNone(parting(net, one, other))
            self.assertEqual(classes(net, range(len(net))), [(make,) for make in range(len(net))])

    def test_some_nets(self):
        chance = random.Random(2)
        for _ in range(300):
            net = some_net(chance, 7)
            barred = some_barred(chance, net)
            for one, other in itertools.product(range(len(net)), repeat=2):
                tellers = [
                    make for make in range(len(net))
                    if make not in (barred or []) and comes(net, make, one) != comes(net, make, other)]
                told = self.told(parting, net, one, other, barred)
                self.assertEqual(told, tellers[0] if tellers else None)

    def test_no_make_the_first_from_the_left(self):
        for none in NO_MAKES:
            for barred in (None, [], list(range(6))):
                self.refused(NoMake, {"make": none}, parting, NET, none, 0, barred)
                self.refused(NoMake, {"make": none}, parting, NET, 0, none, barred)
                self.refused(NoMake, {"make": none}, parting, NET, none, none, barred)
        self.refused(NoMake, {"make": -1}, parting, NET, -1, 6)
        self.refused(NoMake, {"make": 6}, parting, NET, 6, -1)


class ClassesTest(Asking):
    def test_by_their_least_makes(self):
        net = line(6)
        self.assertEqual(self.told(classes, net, [5, 0, 3, 1, 2, 4, 0], [0, 1, 4]), [(0, 1, 2), (3,), (4, 5)])
        self.assertEqual(classes(net, [4, 5, 2, 0], [0, 1, 4]), [(0, 2), (4, 5)])
        self.assertEqual(classes(net, (4, 2, 5), (4, 1, 0)), [(2,), (4, 5)])
        self.assertEqual(classes(NET, [1, 0, 2], [0, 1, 2, 5]), [(0, 1, 2)])

    def test_alike_ones_need_not_be_neighbours(self):
        net = ((), (), (), (0, 2), (1,))
        self.assertEqual(classes(net, range(5), [0, 1, 2]), [(0, 2, 3), (1, 4)])

    def test_all_barred(self):
        self.assertEqual(classes(NET, [3, 0, 5], range(6)), [(0, 3, 5)])
        self.assertIs(settled(NET, [3, 0, 5], [5, 4, 3, 2, 1, 0]), True)

    def test_of_one_and_of_none(self):
        self.assertEqual(classes(NET, []), [])
        self.assertEqual(classes(NET, (), [0]), [])
        self.assertEqual(classes(NET, [3, 3]), [(3,)])
        self.assertIs(settled(NET, []), True)
        self.assertIs(settled(NET, [], [0]), True)
        self.assertIs(settled(NET, [4]), True)
        self.assertIs(settled(NET, (4, 4)), True)

    def test_settled(self):
        self.assertIs(settled(NET, [1, 2]), False)
        self.assertIs(settled(NET, [1, 2], [2, 1]), False)
        self.assertIs(self.told(settled, NET, [1, 2], [2, 1, 5]), True)
        self.assertIs(settled(line(3), [0, 1], [0]), True)
        self.assertIs(settled(line(3), [0, 1], [1]), False)

    def test_told_lists_are_new_ones(self):
        first = classes(NET, [0, 1])
        first.append(9)
        self.assertEqual(classes(NET, [0, 1]), [(0,), (1,)])
        none = classes(NET, [])
        none.append(9)
        self.assertEqual(classes(NET, []), [])

    def test_some_nets(self):
        chance = random.Random(3)
        for _ in range(400):
            net = some_net(chance, 8)
            makes, barred = some_makes(chance, net), some_barred(chance, net)
            rows = []
            for make in sorted(set(makes)):
                alike = tuple(
                    one for one in sorted(set(makes)) if parting(net, one, make, barred) is None)
                if alike not in rows:
                    rows.append(alike)
            told = self.told(classes, net, makes, barred)
            self.assertEqual(told, rows)
            self.assertEqual({type(row) for row in told} | {tuple}, {tuple})
            self.assertIs(settled(net, makes, barred), len(rows) < 2)
            self.assertIs(settled(net, makes, barred), useful(net, makes, barred) == [])

    def test_forty_makes(self):
        with within(60):
            for net in (full_net(40), line(40)):
                makes = range(40)
                self.assertEqual(useful(net, makes), list(range(39)))
                self.assertEqual(classes(net, makes, range(0, 40, 2)), [
                    tuple(range(max(0, make), min(40, make + 2))) for make in range(0, 40, 2)])
                self.assertIs(settled(net, makes), False)
                self.assertEqual(parting(net, 38, 39), 38)
                self.assertEqual(sides(net, makes, 20), (tuple(range(21)), tuple(range(21, 40))))


class AllAnswersTest(Asking):
    """Point 15: what true answers at all makes that are not barred leave."""

    def test_just_those_that_are_alike_are_left(self):
        chance = random.Random(4)
        for _ in range(300):
            net = some_net(chance, 7)
            first = chance.randrange(len(net))
            barred = some_makes(chance, net)
            free = [make for make in range(len(net)) if make not in barred]
            trials = [(make, true_answer(net, first, make)) for make in free * chance.randint(1, 3)]
            trials += [(make, "cannot") for make in barred]
            chance.shuffle(trials)
            alike = next(row for row in classes(net, range(len(net)), barred) if first in row)
            self.assertEqual(makes_of(known(net, trials)), alike)
            few = trials[:chance.randint(0, len(trials))]
            self.assertLessEqual(set(alike), set(makes_of(known(net, few))))


if __name__ == "__main__":
    unittest.main()
