"""Points 1, 2 and 3: what is promised over the whole program."""

import itertools
import os
import random
import unittest

from badbegins.apart import classes, parting, settled, useful
from badbegins.bookchecks import book_asked
from badbegins.books import best_plan, book_of, number_of
from badbegins.halves import halving_plan
from badbegins.nets import net_of, renumbered
from badbegins.plans import worst_of
from badbegins.roundchecks import rounds_asked
from badbegins.rounds import round_book, round_plan, rounds_of
from badbegins.stands import known, makes_of, stand_of
from badbegins.sumchecks import sum_asked
from badbegins.trials import against, barred_by, true_answer
from badbegins.weights import least_sum, sum_book, sum_plan

import badbegins
from helping import comes, small_nets, some_makes, some_net, some_order

MOST = (10, 6, 4, 3)
OTHER = {"bad": "good", "good": "bad"}


def answer_at(net, first, make, lying):
    answer = "bad" if comes(net, make, first) else "good"
    return OTHER[answer] if lying else answer


def all_ends(net, plan, first, lies):
    """Each end of the plan with the makes tried, whichever trials lie but no more than so many."""
    if plan[0] == "left":
        return [((), plan[1])]
    ends = []
    for lying in (False, True)[:1 + min(1, lies)]:
        part = plan[2] if answer_at(net, first, plan[1], lying) == "bad" else plan[3]
        ends += [((plan[1], *tried), makes) for tried, makes in all_ends(net, part, first, lies - lying)]
    return ends


def alike_with(net, first, barred):
    return [
        make for make in range(len(net)) if all(
            comes(net, one, make) == comes(net, one, first)
            for one in range(len(net)) if one not in (barred or []))]


def some_trials(chance, net, first, lies, most):
    """Trials told, badness begun at the first one and at most so many of them lying."""
    trials = [
        (make, true_answer(net, first, make))
        for make in [chance.randrange(len(net)) for _ in range(chance.randint(0, most))]]
    for place in chance.sample(range(len(trials)), min(len(trials), chance.randint(0, lies))):
        make, answer = trials[place]
        trials[place] = (make, OTHER[answer])
    for _ in range(chance.randint(0, 2)):
        trials.insert(chance.randint(0, len(trials)), (chance.randrange(len(net)), "cannot"))
    return trials


class PossibleTest(unittest.TestCase):
    def test_just_those_for_which_no_more_would_be_lies(self):
        chance = random.Random(1)
        for net in small_nets(4):
            for first in range(len(net)):
                for lies in range(4):
                    trials = some_trials(chance, net, first, lies, 7)
                    would = [
                        sum(answer != answer_at(net, make, one, False)
                            for one, answer in trials if answer != "cannot")
                        for make in range(len(net))]
                    self.assertEqual(
                        known(net, trials, lies),
                        tuple((make, many) for make, many in enumerate(would) if many <= lies))
                    self.assertIn(first, makes_of(known(net, trials, lies)))

    def test_by_all_true_answers_just_the_alike_ones(self):
        chance = random.Random(2)
        for net in small_nets(4):
            barred = some_makes(chance, net)[:2]
            for first in range(len(net)):
                trials = [(make, true_answer(net, first, make)) for make in range(len(net)) if make not in barred]
                trials += [(make, "cannot") for make in barred] + trials[:2]
                chance.shuffle(trials)
                alike = tuple(alike_with(net, first, barred))
                self.assertEqual(makes_of(known(net, trials)), alike)
                self.assertLessEqual(set(alike), set(makes_of(known(net, trials[:len(trials) // 2]))))
                self.assertEqual([parting(net, first, make, barred) for make in alike], [None] * len(alike))


class LeadTest(unittest.TestCase):
    def leads(self, net, plan, first, stand, barred, lies, number, prices):
        possible = makes_of(stand)
        alike = alike_with(net, first, barred)
        for tried, makes in all_ends(net, plan, first, lies - dict(stand)[first]):
            self.assertIn(first, makes)
            self.assertLessEqual(set(makes), set(alike))
            self.assertLessEqual(sum(1 if prices is None else prices[make] for make in tried), number)
            if lies == 0:
                self.assertEqual(makes, tuple(make for make in possible if make in alike))

    def test_whichever_trials_lie_over_small_nets(self):
        chance = random.Random(3)
        for net in small_nets(4):
            for lies in range(4):
                first = chance.randrange(len(net))
                trials = some_trials(chance, net, first, lies, 3)
                stand, barred = known(net, trials, lies), barred_by(net, trials)
                if len(stand) <= MOST[lies]:
                    for prices in (None, [chance.randint(1, 5) for _ in net]):
                        plan = best_plan(net, stand, barred, lies, prices)
                        number = number_of(net, stand, barred, lies, prices)
                        self.assertEqual(worst_of(plan, prices), number)
                        for one in makes_of(stand):
                            self.leads(net, plan, one, stand, barred, lies, number, prices)

    def test_sums_and_halves_lead_too(self):
        chance = random.Random(4)
        for _ in range(200):
            net = some_net(chance, 7)
            makes, barred = some_makes(chance, net, 1), some_makes(chance, net)[:2]
            weights = [chance.randint(0, 5) for _ in net]
            for plan in (sum_plan(net, makes, weights, barred), halving_plan(net, makes, barred)):
                for first in makes:
                    self.leads(net, plan, first, stand_of(makes), barred, 0, len(makes), None)


class OrderTest(unittest.TestCase):
    """In which order trials were told, and which numbers the makes have, changes nothing."""

    def test_in_which_order_trials_were_told(self):
        chance = random.Random(5)
        for _ in range(60):
            net, lies = some_net(chance, 6), chance.randint(0, 3)
            trials = some_trials(chance, net, chance.randrange(len(net)), lies, 3)
            stand, barred = known(net, trials, lies), barred_by(net, trials)
            for other in itertools.permutations(trials):
                self.assertEqual(known(net, list(other), lies), stand)
                self.assertEqual(barred_by(net, list(other)), barred)
                for make in range(len(net)):
                    self.assertEqual(len(against(net, other, make)), len(against(net, trials, make)))

    def test_which_numbers_the_makes_have(self):
        chance = random.Random(6)
        for _ in range(150):
            net, lies = some_net(chance, 6), chance.randint(0, 3)
            order = some_order(chance, net)
            moved = {make: place for place, make in enumerate(order)}
            other = renumbered(net, order)

            def to(makes):
                return [moved[make] for make in makes]

            trials = some_trials(chance, net, chance.randrange(len(net)), lies, 5)
            barred, stand = barred_by(net, trials), known(net, trials, lies)
            moved_stand = tuple(sorted((moved[make], many) for make, many in stand))
            self.assertEqual(known(other, [(moved[make], answer) for make, answer in trials], lies), moved_stand)
            makes = makes_of(stand)
            self.assertEqual(
                sorted(classes(other, to(makes), to(barred))),
                sorted(tuple(sorted(to(one))) for one in classes(net, makes, barred)))
            self.assertEqual(settled(other, to(makes), to(barred)), settled(net, makes, barred))
            prices, weights = ([chance.randint(1, 9) for _ in net] for _ in range(2))
            self.assertEqual(
                least_sum(other, to(makes), [weights[make] for make in order], to(barred),
                          [prices[make] for make in order]),
                least_sum(net, makes, weights, barred, prices))
            if len(stand) <= MOST[lies]:
                self.assertEqual(
                    number_of(other, moved_stand, to(barred), lies, [prices[make] for make in order]),
                    number_of(net, stand, barred, lies, prices))
            for width in (1, 2, 3):
                self.assertEqual(
                    rounds_of(other, to(makes), width, to(barred)), rounds_of(net, makes, width, barred))

    def test_what_was_asked_before_changes_nothing(self):
        net = ((), (0,), (0,), (1, 2), (), (2, 4))
        stand, makes, weights = stand_of(range(6)), [0, 1, 4, 5], [1, 2, 3, 4, 5, 6]
        asked = [
            (book_of, (net, stand)), (book_of, (net, stand, [3], 1)), (number_of, (net, stand, None, 0, weights)),
            (sum_book, (net, makes, weights)), (sum_plan, (net, makes, weights, [1], weights)),
            (least_sum, (net, makes, [0] * 6)), (round_book, (net, makes, 2)), (round_plan, (net, makes, 1, [5])),
            (useful, (net, makes)), (net_of, ([[], [0]],)),
        ]
        told = [call(*given) for call, given in asked]
        chance = random.Random(7)
        for _ in range(10):
            for place in chance.sample(range(len(asked)), len(asked)):
                call, given = asked[place]
                self.assertEqual(call(*given), told[place])


class BooksTest(unittest.TestCase):
    """Each plan has a book by which it can be walked that no plan needs fewer."""

    def test_each_book_is_let_by(self):
        chance = random.Random(8)
        for _ in range(100):
            net = some_net(chance, 6)
            makes, barred = some_makes(chance, net, 1), some_makes(chance, net)[:2]
            prices = chance.choice([None, [chance.randint(1, 9) for _ in net]])
            weights = [chance.randint(0, 9) for _ in net]
            stand = stand_of(makes)
            self.assertIs(book_asked(net, stand, book_of(net, stand, barred, 0, prices), barred, 0, prices), True)
            self.assertIs(sum_asked(
                net, makes, weights, sum_book(net, makes, weights, barred, prices), barred, prices), True)
            for width in (1, 2, 3):
                self.assertIs(rounds_asked(
                    net, makes, width, round_book(net, makes, width, barred), barred), True)


class PackageTest(unittest.TestCase):
    def test_nothing_is_taken_in_from_outside(self):
        """No clock, chance or files: no word of Python's own but these."""
        folder = os.path.dirname(badbegins.__file__)
        for name in sorted(os.listdir(folder)):
            if name.endswith(".py"):
                with open(os.path.join(folder, name), encoding="ascii") as file:
                    for row in file:
                        if row.startswith(("import ", "from ")):
                            self.assertTrue(
                                row.startswith("from badbegins.") or row == "from itertools import combinations\n",
                                (name, row))


if __name__ == "__main__":
    unittest.main()
