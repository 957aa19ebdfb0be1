"""Points 2, 5 and 7: what comes of what, by what way, and numbers that are no makes."""

import random
import unittest

from badbegins import heirs
from badbegins.errors import HuntError, NoMake
from badbegins.heirs import comes_of, elders_of, heirs_of, way_to

from helping import BIG, comes, full_net, line, small_nets, within

NET = ((), (0,), (0,), (1, 2), (), (2, 4))


def ways(net, young, old):
    """Every way from the one to the other, by going all ways."""
    if young == old:
        return [[young]]
    return [[young] + way for elder in net[young] for way in ways(net, elder, old)]


class ComesOfTest(unittest.TestCase):
    def test_defined_here(self):
        for told in (comes_of, elders_of, heirs_of, way_to):
            self.assertEqual(told.__module__, heirs.__name__)

    def test_comes_of(self):
        self.assertIs(comes_of(NET, 3, 0), True)
        self.assertIs(comes_of(NET, 3, 1), True)
        self.assertIs(comes_of(NET, 5, 0), True)
        self.assertIs(comes_of(NET, 5, 1), False)
        self.assertIs(comes_of(NET, 0, 3), False)
        self.assertIs(comes_of(NET, 4, 0), False)

    def test_each_comes_of_itself(self):
        for make in range(len(NET)):
            self.assertIs(comes_of(NET, make, make), True)
            self.assertIn(make, elders_of(NET, make))
            self.assertIn(make, heirs_of(NET, make))
            self.assertEqual(way_to(NET, make, make), [make])

    def test_all_of_which_it_comes(self):
        self.assertEqual(elders_of(NET, 0), (0,))
        self.assertEqual(elders_of(NET, 3), (0, 1, 2, 3))
        self.assertEqual(elders_of(NET, 4), (4,))
        self.assertEqual(elders_of(NET, 5), (0, 2, 4, 5))

    def test_all_that_come_of_it(self):
        self.assertEqual(heirs_of(NET, 0), (0, 1, 2, 3, 5))
        self.assertEqual(heirs_of(NET, 1), (1, 3))
        self.assertEqual(heirs_of(NET, 2), (2, 3, 5))
        self.assertEqual(heirs_of(NET, 5), (5,))

    def test_kinds_of_what_is_told(self):
        self.assertIs(type(elders_of(NET, 3)), tuple)
        self.assertIs(type(heirs_of(NET, 0)), tuple)
        self.assertIs(type(way_to(NET, 3, 0)), list)

    def test_every_small_net(self):
        for net in small_nets(5):
            makes = range(len(net))
            for young in makes:
                told = [old for old in makes if ways(net, young, old)]
                self.assertEqual(elders_of(net, young), tuple(told))
                self.assertEqual([old for old in makes if comes_of(net, young, old)], told)
            for old in makes:
                self.assertEqual(
                    heirs_of(net, old), tuple(young for young in makes if ways(net, young, old)))

    def test_rising_in_great_nets(self):
        self.assertEqual(elders_of(((),) * 8 + ((1,),), 8), (1, 8))
        chance = random.Random(1)
        for _ in range(60):
            net = tuple(tuple(sorted(chance.sample(range(make), min(make, 1)))) for make in range(40))
            for make in range(40):
                self.assertEqual(
                    elders_of(net, make), tuple(old for old in range(40) if comes(net, make, old)))
                self.assertEqual(
                    heirs_of(net, make), tuple(young for young in range(40) if comes(net, young, make)))

    def test_no_two_unlike_ones_come_of_each_other(self):
        for net in small_nets(4):
            for one in range(len(net)):
                for other in range(one):
                    self.assertFalse(comes_of(net, one, other) and comes_of(net, other, one))


class WayTest(unittest.TestCase):
    def test_ways(self):
        self.assertEqual(way_to(NET, 1, 0), [1, 0])
        self.assertEqual(way_to(NET, 5, 0), [5, 2, 0])
        self.assertEqual(way_to(NET, 5, 4), [5, 4])
        self.assertIn(way_to(NET, 3, 0), ([3, 1, 0], [3, 2, 0]))

    def test_none_where_there_is_none(self):
        self.assertIsNone(way_to(NET, 0, 3))
        self.assertIsNone(way_to(NET, 4, 0))
        self.assertIsNone(way_to(NET, 5, 1))
        self.assertIsNone(way_to(NET, 1, 2))

    def test_as_few_makes_as_can_be(self):
        # The short way goes by the least elder, by the greatest, by one between.
        self.assertEqual(way_to(((), (0,), (1,), (2,), (0, 3)), 4, 0), [4, 0])
        self.assertEqual(way_to(((), (0,), (1,), (0,), (2, 3)), 4, 0), [4, 3, 0])
        self.assertEqual(way_to(((), (0,), (0,), (1,), (3,), (2, 3, 4)), 5, 0), [5, 2, 0])

    def test_every_small_net(self):
        for net in small_nets(5):
            for young in range(len(net)):
                for old in range(len(net)):
                    all_ways = ways(net, young, old)
                    told = way_to(net, young, old)
                    if all_ways:
                        self.assertIn(told, all_ways)
                        self.assertEqual(len(told), min(map(len, all_ways)))
                    else:
                        self.assertIsNone(told)


class FortyTest(unittest.TestCase):
    """Going all ways has no end in time here."""

    def test_all_ahead_as_elders(self):
        net = full_net(40)
        with within(60):
            self.assertEqual(elders_of(net, 39), tuple(range(40)))
            self.assertEqual(heirs_of(net, 0), tuple(range(40)))
            self.assertIs(comes_of(net, 39, 0), True)
            self.assertIs(comes_of(net, 0, 39), False)
            for young in range(40):
                self.assertEqual(elders_of(net, young), tuple(range(young + 1)))
                self.assertEqual(heirs_of(net, young), tuple(range(young, 40)))
                for old in range(young):
                    self.assertEqual(way_to(net, young, old), [young, old])
                    self.assertIsNone(way_to(net, old, young))

    def test_one_that_none_comes_of(self):
        net = ((), *[tuple(range(1, make)) for make in range(1, 40)])
        with within(60):
            self.assertIs(comes_of(net, 39, 0), False)
            self.assertIsNone(way_to(net, 39, 0))
            self.assertEqual(elders_of(net, 39), tuple(range(1, 40)))
            self.assertEqual(heirs_of(net, 0), (0,))

    def test_two_ahead_as_elders(self):
        net = tuple(tuple(range(max(0, make - 2), make)) for make in range(40))
        with within(60):
            self.assertEqual(len(way_to(net, 39, 0)), 21)
            self.assertEqual(elders_of(net, 39), tuple(range(40)))
            self.assertEqual(heirs_of(net, 0), tuple(range(40)))

    def test_line(self):
        net = line(40)
        self.assertEqual(way_to(net, 39, 0), list(range(39, -1, -1)))
        self.assertEqual(elders_of(net, 20), tuple(range(21)))
        self.assertEqual(heirs_of(net, 20), tuple(range(20, 40)))


class TellingTest(unittest.TestCase):
    def test_told_lists_are_new_ones(self):
        first = way_to(NET, 5, 0)
        first.append(9)
        second = way_to(NET, 5, 0)
        self.assertIsNot(first, second)
        self.assertEqual(second, [5, 2, 0])
        own = way_to(NET, 4, 4)
        own.clear()
        self.assertEqual(way_to(NET, 4, 4), [4])

    def test_the_same_however_often_and_in_whichever_order_asked(self):
        asked = [
            (comes_of, (NET, 3, 0)), (elders_of, (NET, 3)), (heirs_of, (NET, 0)),
            (way_to, (NET, 3, 0)), (way_to, (NET, 0, 3)), (elders_of, (line(4), 3)),
        ]
        told = [call(*given) for call, given in asked]
        again = [call(*given) for call, given in reversed(asked)]
        self.assertEqual(again[::-1], told)


class NoMakeTest(unittest.TestCase):
    NONE = (-1, -2, -6, 6, 7, 40, BIG, -BIG)

    def refused(self, make, call, *given):
        with self.assertRaises(HuntError) as held:
            call(*given)
        self.assertIs(type(held.exception), NoMake)
        self.assertEqual(vars(held.exception), {"make": make})

    def test_of_one(self):
        for call in (elders_of, heirs_of):
            for none in self.NONE:
                self.refused(none, call, NET, none)

    def test_either_of_two(self):
        for call in (comes_of, way_to):
            for none in self.NONE:
                for make in range(len(NET)):
                    self.refused(none, call, NET, none, make)
                    self.refused(none, call, NET, make, none)
                self.refused(none, call, NET, none, none)

    def test_of_two_the_first_from_the_left(self):
        for call in (comes_of, way_to):
            self.refused(-1, call, NET, -1, 6)
            self.refused(6, call, NET, 6, -1)
            self.refused(BIG, call, NET, BIG, 9)
            self.refused(7, call, NET, 7, 6)

    def test_the_last_make_is_one(self):
        for many in (1, 2, 40):
            net = line(many)
            self.assertIs(comes_of(net, many - 1, many - 1), True)
            self.refused(many, comes_of, net, many, 0)
            self.refused(many, comes_of, net, 0, many)
            self.refused(many, elders_of, net, many)
            self.refused(many, heirs_of, net, many)
            self.refused(many, way_to, net, many, 0)
            self.refused(many, way_to, net, 0, many)


if __name__ == "__main__":
    unittest.main()
