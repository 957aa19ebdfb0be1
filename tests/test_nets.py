"""Points 2, 4 and 6: nets, and nets renumbered."""

import itertools
import unittest

from badbegins import nets
from badbegins.errors import NoNet, NoOrder
from badbegins.nets import net_of, renumbered

from helping import BIG, Asking, all_rows, full_net, line, small_nets, within


class NetTest(Asking):
    def no_net(self, rows, make):
        self.refused(NoNet, {"make": make}, net_of, rows)

    def test_defined_here(self):
        self.assertEqual(net_of.__module__, nets.__name__)
        self.assertEqual(renumbered.__module__, nets.__name__)

    def test_one_make(self):
        self.assertEqual(net_of([[]]), ((),))

    def test_forty_makes(self):
        self.assertEqual(net_of([[] for _ in range(40)]), ((),) * 40)
        self.assertEqual(net_of([list(row) for row in full_net(40)]), full_net(40))

    def test_no_makes_and_too_many(self):
        self.no_net([], -1)
        self.no_net((), -1)
        self.no_net([[] for _ in range(41)], -1)
        self.no_net([[] for _ in range(200)], -1)

    def test_too_many_goes_ahead_of_a_faulty_make(self):
        self.no_net([[0]] + [[] for _ in range(40)], -1)
        self.no_net([[] for _ in range(40)] + [[40]], -1)

    def test_elders_in_any_order_are_told_rising(self):
        for order in itertools.permutations([0, 2, 3]):
            self.assertEqual(net_of([[], [], [], [], list(order)])[4], (0, 2, 3))
        self.assertEqual(net_of([[], [0], [1, 0], [2, 0]]), ((), (0,), (0, 1), (0, 2)))
        self.assertEqual(
            net_of([[]] * 39 + [list(range(38, -1, -1))]), ((),) * 39 + (tuple(range(39)),))

    def test_kinds_of_what_is_told(self):
        net = net_of([[], [0], [1, 0]])
        self.assertIs(type(net), tuple)
        for elders in net:
            self.assertIs(type(elders), tuple)
            for elder in elders:
                self.assertIs(type(elder), int)

    def test_every_small_net(self):
        for many in range(1, 6):
            for rows in all_rows(many):
                turned = [elders[::-1] for elders in rows]
                self.assertEqual(net_of(turned), tuple(tuple(elders) for elders in rows))

    def test_elder_below_nought(self):
        self.no_net([[], [-1]], 1)
        self.no_net([[], [0], [0, 1, -2]], 2)
        self.no_net([[-1]], 0)

    def test_elder_is_the_make_itself(self):
        self.no_net([[0]], 0)
        self.no_net([[], [0], [2]], 2)

    def test_greater_elder(self):
        self.no_net([[], [2], []], 1)
        self.no_net([[1], []], 0)
        self.no_net([[], [7]], 1)

    def test_elder_twice(self):
        self.no_net([[], [0, 0]], 1)
        self.no_net([[], [0], [], [2, 0, 1, 2]], 3)

    def test_of_several_faulty_makes_the_first(self):
        self.no_net([[], [0, 0], [-1], [3]], 1)
        self.no_net([[], [0], [-1], [1, 1]], 2)
        self.no_net([[], [1], [0, 0]], 1)
        self.no_net([[], [], [5], [-1]], 2)

    def test_last_of_forty_faulty(self):
        self.no_net([[] for _ in range(39)] + [[39]], 39)

    def test_numbers_of_sixty_figures(self):
        self.no_net([[], [BIG]], 1)
        self.no_net([[], [0], [0, -BIG]], 2)
        self.no_net([[BIG]], 0)

    def test_rows_as_tuples(self):
        self.assertEqual(net_of(((), (0,), (1, 0))), ((), (0,), (0, 1)))
        self.assertEqual(net_of([(), (0,), [1, 0]]), ((), (0,), (0, 1)))
        self.no_net(((), (0, 0)), 1)

    def test_a_net_is_its_own_net(self):
        for net in small_nets(4):
            self.assertEqual(net_of(net), net)

    def test_rows_unchanged_and_kept_as_copies(self):
        rows = [[], [0], [1, 0]]
        net = net_of(rows)
        self.assertEqual(rows, [[], [0], [1, 0]])
        rows[0].append(9)
        rows[2].clear()
        rows.pop()
        self.assertEqual(net, ((), (0,), (0, 1)))


def is_order(net, order):
    """Point 6 word by word, over the whole list."""
    return sorted(order) == list(range(len(net))) and all(
        order.index(elder) < order.index(make)
        for make, elders in enumerate(net) for elder in elders)


def first_fault(net, order):
    """The place to refuse with, for a list that is no order."""
    for place, make in enumerate(order):
        ahead = order[:place]
        if make not in range(len(net)) or make in ahead or set(net[make]) - set(ahead):
            return place
    return len(order)


class RenumberedTest(Asking):
    def no_order(self, net, order, place):
        self.refused(NoOrder, {"place": place}, renumbered, net, order)

    def test_same_order_same_net(self):
        for net in small_nets(4):
            self.assertEqual(renumbered(net, list(range(len(net)))), net)

    def test_by_another_order(self):
        net = ((), (), (0,), (1,), (2, 3))
        self.assertEqual(renumbered(net, [1, 3, 0, 2, 4]), ((), (0,), (), (2,), (1, 3)))
        self.assertEqual(renumbered(net, [1, 0, 2, 3, 4]), ((), (), (1,), (0,), (2, 3)))
        self.assertEqual(renumbered(((), ()), [1, 0]), ((), ()))

    def test_elders_rise_in_the_new_numbers(self):
        net = ((), (), (), (0, 1, 2))
        for order in itertools.permutations(range(3)):
            self.assertEqual(renumbered(net, [*order, 3]), net)
        self.assertEqual(renumbered(((), (), (0, 1), (0,)), [1, 0, 3, 2]), ((), (), (1,), (0, 1)))

    def test_kinds_of_what_is_told(self):
        net = renumbered(((), (), (0, 1)), [1, 0, 2])
        self.assertIs(type(net), tuple)
        for elders in net:
            self.assertIs(type(elders), tuple)

    def test_every_list_for_every_small_net(self):
        for net in small_nets(3):
            for length in range(len(net) + 2):
                for order in itertools.product(range(-1, len(net) + 1), repeat=length):
                    order = list(order)
                    if is_order(net, order):
                        told = renumbered(net, order)
                        self.assertEqual(net_of(told), told)
                        for place, make in enumerate(order):
                            self.assertEqual(
                                sorted(order[elder] for elder in told[place]), list(net[make]))
                    else:
                        self.no_order(net, order, first_fault(net, order))

    def test_every_order_of_four(self):
        for net in small_nets(4):
            for order in itertools.permutations(range(len(net))):
                order = list(order)
                if is_order(net, order):
                    told = renumbered(net, order)
                    back = [order.index(make) for make in range(len(net))]
                    self.assertEqual(renumbered(told, back), net)
                else:
                    self.no_order(net, order, first_fault(net, order))

    def test_what_is_no_make(self):
        net = ((), (0,), (0,))
        self.no_order(net, [-1, 0, 1], 0)
        self.no_order(net, [0, 3, 1], 1)
        self.no_order(net, [0, 1, -1], 2)
        self.no_order(net, [0, 1, BIG], 2)
        self.no_order(net, [0, -BIG], 1)

    def test_what_stands_ahead(self):
        net = ((), (0,), (0,))
        self.no_order(net, [0, 0, 1, 2], 1)
        self.no_order(net, [0, 1, 2, 1], 3)
        self.no_order(net, [0, 2, 0], 2)

    def test_an_elder_lacks(self):
        net = ((), (), (0, 1))
        self.no_order(net, [0, 2, 1], 1)
        self.no_order(net, [2, 0, 1], 0)
        self.no_order(line(3), [0, 2], 1)
        self.no_order(line(3), [1], 0)

    def test_too_short_is_refused_with_its_length(self):
        net = ((), (0,), (0,))
        self.no_order(net, [], 0)
        self.no_order(net, (), 0)
        self.no_order(net, [0], 1)
        self.no_order(net, [0, 2], 2)
        self.no_order(((),), [], 0)

    def test_too_long_is_refused_with_the_first_too_many(self):
        net = ((), (0,), (0,))
        self.no_order(net, [0, 1, 2, 3], 3)
        self.no_order(net, [0, 1, 2, 0], 3)
        self.no_order(((),), [0, 0], 1)
        self.no_order(net, [0, 1, 2] * 60, 3)
        self.no_order(net, [0, 1, 2] + [9] * 5000, 3)

    def test_the_first_of_several_faults(self):
        net = ((), (0,), (0,), (1,))
        self.no_order(net, [0, 3, 0, 9], 1)
        self.no_order(net, [0, 0, 9], 1)
        self.no_order(net, [0, 9, 9], 1)
        self.no_order(net, [0, 9], 1)
        self.no_order(net, [0, 1, 2, 2], 3)

    def test_order_as_a_tuple(self):
        self.assertEqual(renumbered(((), (), (0,)), (1, 0, 2)), ((), (), (1,)))
        self.no_order(((), (0,)), (1, 0), 0)

    def test_nothing_handed_in_is_changed_or_kept(self):
        net, order = ((), (), (0,)), [1, 0, 2]
        told = renumbered(net, order)
        self.assertEqual((net, order), (((), (), (0,)), [1, 0, 2]))
        order.clear()
        self.assertEqual(told, ((), (), (1,)))

    def test_forty_makes(self):
        with within(60):
            self.assertEqual(renumbered(full_net(40), list(range(40))), full_net(40))
            self.no_order(full_net(40), list(range(39)), 39)
            free = ((),) * 39 + (tuple(range(39)),)
            self.assertEqual(renumbered(free, list(range(38, -1, -1)) + [39]), free)


if __name__ == "__main__":
    unittest.main()
