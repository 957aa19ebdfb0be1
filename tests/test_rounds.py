"""Points 2, 13, 27, 28 and 30: splits, round books, round plans and their depth."""

import itertools
import random
import unittest

from badbegins import rounds as rounds_file
from badbegins.apart import settled, useful
from badbegins.books import number_of
from badbegins.errors import TooGreat
from badbegins.nets import renumbered
from badbegins.roundchecks import rounds_asked
from badbegins.rounds import depth_of, round_book, round_plan, rounds_of, split
from badbegins.stands import stand_of
from badbegins.trials import true_answer

from helping import (
    Asking, comes, full_net, line, small_nets, some_makes, some_net, some_order, subsets, within,
)

NET = ((), (0,), (0,), (1, 2), (), (2, 4))


def rising(makes):
    return tuple(sorted(set(makes)))


def split_by_words(net, makes, tried):
    """Point 27 word by word: each row of answers in turn, with what is left by it."""
    pairs = []
    for answers in itertools.product(("bad", "good"), repeat=len(tried)):
        left = tuple(
            make for make in rising(makes)
            if answers == tuple("bad" if comes(net, one, make) else "good" for one in tried))
        if left:
            pairs.append((answers, left))
    return pairs


def may_be_tried(net, makes, width, barred):
    return [
        tried for size in range(1, width + 1)
        for tried in itertools.combinations(useful(net, makes, barred), size)]


def rounds_by_all_ways(net, makes, width, barred):
    """Point 28 word by word, each set of makes reckoned anew each time."""
    return min((
        1 + max(
            rounds_by_all_ways(net, left, width, barred) for _, left in split_by_words(net, makes, tried))
        for tried in may_be_tried(net, makes, width, barred)), default=0)


def book_by_words(net, makes, width, barred):
    """The round book word by word, from the rounds of what may be left."""
    found, todo = {}, [rising(makes)]
    while todo:
        one = todo.pop()
        if one not in found:
            found[one] = {
                tried: [left for _, left in split_by_words(net, one, tried)]
                for tried in may_be_tried(net, one, width, barred)}
            todo += [left for lefts in found[one].values() for left in lefts]
    rounds, entries = {}, []
    for one in sorted(found, key=len):
        comings = [
            (1 + max(rounds[left] for left in lefts), len(tried), tried)
            for tried, lefts in found[one].items()]
        many, _, tried = min(comings, default=(0, 0, None))
        rounds[one] = many
        entries.append((one, many, tried))
    return sorted(entries, key=lambda entry: entry[0])


def some_case(chance, most_makes=8):
    """A net, at most six makes in any order, with at most ten useful, a width and barred ones."""
    net = some_net(chance, most_makes)
    makes = rising(some_makes(chance, net, 1))[:6]
    makes = chance.sample(makes, len(makes)) + list(makes[:chance.randint(0, 2)])
    return net, makes, chance.randint(1, 3), chance.choice([None, None, [], some_makes(chance, net)[:3]])


class SplitTest(Asking):
    def test_defined_here(self):
        for call in (split, round_book, round_plan, depth_of):
            self.assertEqual(call.__module__, rounds_file.__name__)

    def test_by_one(self):
        self.assertEqual(self.told(split, NET, [5, 1, 0, 4, 1], (1,)), [
            (("bad",), (0, 1)), (("good",), (4, 5))])

    def test_by_two_and_three(self):
        self.assertEqual(split(NET, range(6), (1, 5)), [
            (("bad", "bad"), (0,)), (("bad", "good"), (1,)),
            (("good", "bad"), (2, 4, 5)), (("good", "good"), (3,))])
        self.assertEqual(split(line(4), [3, 2, 1, 0], (0, 1, 2)), [
            (("bad", "bad", "bad"), (0,)), (("good", "bad", "bad"), (1,)),
            (("good", "good", "bad"), (2,)), (("good", "good", "good"), (3,))])

    def test_by_none(self):
        self.assertEqual(split(NET, [5, 1, 1, 0], ()), [((), (0, 1, 5))])
        self.assertEqual(split(NET, [4], ()), [((), (4,))])

    def test_by_more_than_can_be_tried_in_a_round(self):
        tried = tuple(range(39))
        self.assertEqual(
            sorted(left for _, left in split(line(40), range(40), tried)), [(make,) for make in range(40)])
        self.assertEqual(split(line(40), range(40), tried)[0], (("bad",) * 39, (0,)))

    def test_some_nets(self):
        chance = random.Random(1)
        for _ in range(300):
            net = some_net(chance, 7)
            makes = some_makes(chance, net, 1)
            found = useful(net, makes)
            tried = tuple(sorted(chance.sample(found, chance.randint(0, min(5, len(found))))))
            told = self.told(split, net, makes, tried)
            self.assertEqual(told, split_by_words(net, makes, tried))
            for answers, left in told:
                for first in left:
                    self.assertEqual(answers, tuple(true_answer(net, first, make) for make in tried))

    def test_kinds_and_new_lists(self):
        first, second = (split(NET, range(6), (1, 5)) for _ in range(2))
        self.assertIs(type(first), list)
        for pair in first:
            self.assertEqual([type(pair), type(pair[0]), type(pair[1])], [tuple] * 3)
        first.clear()
        self.assertEqual(split(NET, range(6), (1, 5)), second)


class RoundBookTest(Asking):
    def test_entries_sorted(self):
        self.assertEqual(self.told(round_book, line(3), [2, 0, 1, 2], 1), [
            ((0,), 0, None),
            ((0, 1), 1, (0,)),
            ((0, 1, 2), 2, (0,)),
            ((1,), 0, None),
            ((1, 2), 1, (1,)),
            ((2,), 0, None),
        ])
        self.assertEqual(round_book(line(3), range(3), 2)[2], ((0, 1, 2), 1, (0, 1)))
        self.assertEqual(round_book(line(4), range(4), 2)[3], ((0, 1, 2, 3), 2, (0,)))
        self.assertEqual(round_book(line(4), range(4), 3)[3], ((0, 1, 2, 3), 1, (0, 1, 2)))

    def test_fewest_makes_of_these_the_least(self):
        free = ((),) * 5
        for width, rounds, tried in ((1, 4, (0,)), (2, 2, (0, 1)), (3, 2, (0,))):
            entry = [one for one in round_book(free, range(5), width) if len(one[0]) == 5][0]
            self.assertEqual(entry[1:], (rounds, tried))
        # In the middle of a line one make does, a lesser one would not.
        self.assertEqual(round_book(line(4), range(4), 1)[3], ((0, 1, 2, 3), 2, (1,)))
        self.assertEqual(round_book(line(6), range(6), 2)[5], ((0, 1, 2, 3, 4, 5), 2, (2,)))
        self.assertIn(((0, 1, 2, 3, 4, 5), 2, (1,)), round_book(line(6), range(6), 2, [2]))

    def test_settled_makes_have_one_entry(self):
        for width in (1, 2, 3):
            self.assertEqual(round_book(NET, [3, 3], width), [((3,), 0, None)])
            self.assertEqual(round_plan(NET, [3, 3], width), ("left", (3,)))
            self.assertEqual(rounds_of(NET, [3, 3], width), 0)
            self.assertEqual(round_book(NET, [2, 1], width, [1, 2, 5]), [((1, 2), 0, None)])
            self.assertEqual(round_plan(NET, [2, 1], width, [5, 1, 2, 1]), ("left", (1, 2)))

    def test_every_small_net(self):
        for net in small_nets(4):
            makes = list(range(len(net)))
            for width in (1, 2, 3):
                for barred in (None, [0], [len(net) - 1, 1]):
                    self.assertEqual(
                        round_book(net, makes, width, barred), book_by_words(net, makes, width, barred))

    def test_by_chance(self):
        chance = random.Random(2)
        for _ in range(200):
            case = some_case(chance)
            told = self.told(round_book, *case)
            self.assertEqual(told, book_by_words(*case))
            rounds = {makes: many for makes, many, _ in told}
            self.assertEqual(self.told(rounds_of, *case), rounds[rising(case[1])])

    def test_all_ways(self):
        for net in small_nets(4):
            for makes in subsets(range(len(net)))[1:]:
                for width in (1, 2, 3):
                    self.assertEqual(
                        rounds_of(net, makes, width), rounds_by_all_ways(net, makes, width, None))

    def test_rounds_of_one_are_trials(self):
        chance = random.Random(3)
        for _ in range(100):
            net, makes, _, barred = some_case(chance)
            self.assertEqual(
                rounds_of(net, makes, 1, barred), number_of(net, stand_of(makes), barred))

    def test_which_numbers_the_makes_have_changes_nothing(self):
        chance = random.Random(4)
        for _ in range(100):
            net, makes, width, barred = some_case(chance)
            order = some_order(chance, net)
            moved = {make: place for place, make in enumerate(order)}
            self.assertEqual(rounds_of(net, makes, width, barred), rounds_of(
                renumbered(net, order), [moved[make] for make in makes], width,
                None if barred is None else [moved[make] for make in barred]))

    def test_kinds_and_new_lists(self):
        for makes in ([0, 1, 4], [3]):
            first, second = (round_book(NET, makes, 2) for _ in range(2))
            self.assertIs(type(first), list)
            for entry in first:
                self.assertEqual([type(entry), type(entry[0]), type(entry[1])], [tuple, tuple, int])
                self.assertIn(type(entry[2]), (tuple, type(None)))
            first.append(9)
            self.assertEqual(round_book(NET, makes, 2), second)

    def test_what_may_be_left_out(self):
        for call in (round_book, round_plan, rounds_of):
            for width in (1, 2, 3):
                told = call(NET, [4, 0, 2, 1, 0], width)
                for barred in (None, [], ()):
                    self.assertEqual(call(NET, (0, 1, 2, 4), width, barred), told)
                self.assertEqual(
                    call(NET, [0, 1, 4], width, barred=[4, 0, 4]), call(NET, [0, 1, 4], width, (0, 4)))


class RoundPlanTest(Asking):
    def plan_is_right(self, net, makes, width, barred, plan, book):
        """Point 30 word by word."""
        if settled(net, makes, barred):
            self.assertEqual(plan, ("left", makes))
            return
        tried = book[makes]
        self.assertEqual(plan[:2], ("round", tried))
        self.assertEqual([type(plan), type(plan[2]), len(plan)], [tuple, tuple, 3])
        pairs = split_by_words(net, makes, tried)
        self.assertEqual([answers for answers, _ in plan[2]], [answers for answers, _ in pairs])
        for (_, part), (_, left) in zip(plan[2], pairs):
            self.plan_is_right(net, left, width, barred, part, book)

    def test_plans(self):
        self.assertEqual(round_plan(line(3), [2, 1, 0], 1), (
            "round", (0,), (
                (("bad",), ("left", (0,))),
                (("good",), ("round", (1,), (
                    (("bad",), ("left", (1,))), (("good",), ("left", (2,)))))))))
        self.assertEqual(round_plan(line(3), range(3), 2), (
            "round", (0, 1), (
                (("bad", "bad"), ("left", (0,))),
                (("good", "bad"), ("left", (1,))),
                (("good", "good"), ("left", (2,))))))
        self.assertEqual(round_plan(line(4), range(4), 3, [1, 2]), (
            "round", (0,), ((("bad",), ("left", (0,))), (("good",), ("left", (1, 2, 3))))))

    def test_it_tries_at_each_what_the_book_tells(self):
        chance = random.Random(5)
        for _ in range(200):
            net, makes, width, barred = some_case(chance)
            plan = self.told(round_plan, net, makes, width, barred)
            book = {held: tried for held, _, tried in round_book(net, makes, width, barred)}
            self.plan_is_right(net, rising(makes), width, barred, plan, book)
            self.assertEqual(depth_of(plan), rounds_of(net, makes, width, barred))

    def test_it_leads_to_where_badness_began(self):
        chance = random.Random(6)
        for _ in range(200):
            net, makes, width, barred = some_case(chance)
            for first in makes:
                plan, rounds = round_plan(net, makes, width, barred), 0
                while plan[0] == "round":
                    self.assertTrue(1 <= len(plan[1]) <= width)
                    answers = tuple(true_answer(net, first, make) for make in plan[1])
                    plan, rounds = dict(plan[2])[answers], rounds + 1
                self.assertIn(first, plan[1])
                self.assertTrue(settled(net, plan[1], barred))
                self.assertLessEqual(rounds, rounds_of(net, makes, width, barred))


def long_round_plan(many, place):
    """So many rounds within one another, each at this place of its rows."""
    plan = ("left", (0,))
    for _ in range(many):
        parts = [("left", (1,))] * 3
        parts[place] = plan
        rows = zip((("bad", "bad"), ("good", "bad"), ("good", "good")), parts)
        plan = ("round", (0, 1), tuple(rows))
    return plan


class DepthTest(Asking):
    def test_of_a_plan_that_is_only_left(self):
        self.assertEqual(depth_of(("left", (0, 1))), 0)
        self.assertEqual(depth_of(("left", ())), 0)

    def test_the_greatest_within(self):
        one = ("round", (0,), ((("bad",), ("left", (0,))), (("good",), ("left", (1,)))))
        self.assertEqual(depth_of(one), 1)
        for rows in ((one, ("left", (1,))), (("left", (1,)), one), (one, one)):
            two = ("round", (2,), ((("bad",), rows[0]), (("good",), rows[1])))
            self.assertEqual(self.told(depth_of, two), 2)
        self.assertEqual(depth_of(("round", (2,), ((("bad",), two), (("good",), one)))), 3)

    def test_up_to_sixty_rounds(self):
        for many in range(61):
            for place in range(3):
                self.assertEqual(depth_of(long_round_plan(many, place)), many)


class TooGreatTest(Asking):
    def too_great(self, many, *given):
        for call in (round_book, round_plan, rounds_of):
            self.refused(TooGreat, {"many": many}, call, *given)

    def test_more_than_six(self):
        for net in (line(8), ((),) * 8, full_net(40), line(40)):
            for many in (7, 8):
                for width in (1, 2, 3):
                    self.too_great(many, net, list(range(many)), width)
                    self.too_great(many, net, [*range(many), 0, 3], width, [7])

    def test_alike_ones_count_each(self):
        self.too_great(8, line(8), list(range(8)), 2, [0, 1, 2, 3, 4, 5])

    def test_just_six(self):
        for width, many in ((1, 3), (2, 2), (3, 2)):
            self.assertEqual(rounds_of(line(40), [5, 4, 3, 2, 1, 0, 0, 1], width), many)

    def test_more_than_ten_useful(self):
        makes = [0, 19, 0, 19]
        for many in (11, 19):
            net = line(many + 1)
            for width in (1, 2, 3):
                self.too_great(many, net, [0, many], width)
                self.too_great(many, net, [many, 0, 0, 4], width, [many])
        # Barred ones are not useful.
        self.too_great(11, line(20), makes, 1, range(8))
        self.assertEqual(rounds_of(line(20), makes, 1, range(9)), 1)
        self.assertEqual(rounds_of(line(11), [0, 10], 3), 1)

    def test_more_than_six_goes_ahead(self):
        self.too_great(7, line(40), [0, 5, 10, 15, 20, 25, 30], 2)
        self.too_great(30, line(40), [0, 5, 10, 15, 20, 30], 2)

    def test_settled_ones_are_never_too_great(self):
        for many in (7, 40):
            makes, barred = list(range(many)), list(range(39))
            for width in (1, 2, 3):
                self.assertEqual(
                    round_book(line(40), makes, width, barred), [(tuple(makes), 0, None)])
                self.assertEqual(round_plan(line(40), makes, width, barred), ("left", tuple(makes)))
                self.assertEqual(rounds_of(line(40), makes, width, barred), 0)


class OnceTest(Asking):
    """What comes up again within one asking is reckoned once."""

    def test_six_makes_with_ten_useful_ones(self):
        net = ((),) * 6 + ((0, 1), (2, 3), (4, 5), (0, 2, 4))
        self.assertEqual(len(useful(net, range(6))), 10)
        with within(60):
            book = round_book(net, range(6), 3)
            self.assertEqual(len(book), 2 ** 6 - 1)
            self.assertEqual(rounds_of(net, range(6), 3), 1)
            self.assertEqual(depth_of(round_plan(net, range(6), 3)), 1)
            self.assertEqual(rounds_of(((),) * 6, range(6), 3), 2)
            self.assertIs(rounds_asked(net, range(6), 3, book), True)


if __name__ == "__main__":
    unittest.main()
