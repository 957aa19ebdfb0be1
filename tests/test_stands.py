"""Points 2, 7, 10 and 11: known stands, stands behind trials, stands of makes."""

import itertools
import random
import unittest

from badbegins import stands as stands_file
from badbegins.errors import NoMake, NoTrial, NoTruth
from badbegins.stands import behind, known, makes_of, stand_of
from badbegins.trials import against

from helping import BIG, Asking, comes, full_net, line, small_nets, some_makes, some_net, within

NET = ((), (0,), (0,), (1, 2), (), (2, 4))
ANSWERS = ("bad", "good", "cannot")


def some_trials(chance, net, most):
    return [
        (chance.randrange(len(net)), chance.choice(ANSWERS))
        for _ in range(chance.randint(0, most))
    ]


def lies_of(net, trials, first):
    """How many of the trials would be lies, were badness begun there."""
    return sum(
        answer == ("good" if comes(net, tried, first) else "bad") for tried, answer in trials)


class KnownTest(Asking):
    def test_defined_here(self):
        for call in (known, behind, makes_of, stand_of):
            self.assertEqual(call.__module__, stands_file.__name__)

    def test_without_trials_all_are_possible(self):
        for lies in range(4):
            self.assertEqual(known(NET, [], lies), tuple((make, 0) for make in range(6)))
        self.assertEqual(known(((),), ()), ((0, 0),))

    def test_by_lies(self):
        trials = [(3, "bad"), (5, "bad"), (1, "good")]
        self.assertEqual(known(NET, trials), ((2, 0),))
        self.assertEqual(known(NET, trials, 0), ((2, 0),))
        self.assertEqual(known(NET, trials, 1), ((0, 1), (2, 0), (3, 1), (4, 1), (5, 1)))
        self.assertEqual(
            known(NET, trials, 2), ((0, 1), (1, 2), (2, 0), (3, 1), (4, 1), (5, 1)))
        self.assertEqual(known(NET, trials, 3), known(NET, trials, 2))

    def test_cannot_speaks_against_none(self):
        trials = [(make, "cannot") for make in range(6)]
        self.assertEqual(known(NET, trials), known(NET, []))

    def test_no_lies_unless_told(self):
        self.assertEqual(known(line(3), [(1, "bad")]), ((0, 0), (1, 0)))

    def test_every_small_net(self):
        chance = random.Random(1)
        for net in small_nets(4):
            for lies in range(4):
                trials = some_trials(chance, net, 6)
                counts = [lies_of(net, trials, make) for make in range(len(net))]
                stand = tuple((make, many) for make, many in enumerate(counts) if many <= lies)
                if stand:
                    told = self.told(known, net, trials, lies)
                    self.assertEqual(told, stand)
                    self.assertIs(type(told), tuple)
                    self.assertEqual({type(pair) for pair in told}, {tuple})
                else:
                    rows = [against(net, trials, make)[:lies + 1] for make in range(len(net))]
                    self.refused(NoTruth, {"rows": rows}, known, net, trials, lies)

    def test_where_badness_began_is_possible_while_no_more_lie(self):
        chance = random.Random(2)
        for _ in range(300):
            net = some_net(chance, 8)
            first = chance.randrange(len(net))
            lies = chance.randint(0, 3)
            tried = [chance.randrange(len(net)) for _ in range(8)]
            bent = chance.sample(range(8), lies)
            trials = []
            for place, make in enumerate(tried):
                bad = comes(net, make, first) != (place in bent)
                trials.append((make, "bad" if bad else "good"))
            self.assertIn((first, lies), known(net, trials, lies))

    def test_the_order_of_trials_changes_nothing(self):
        trials = [(3, "bad"), (5, "good"), (4, "cannot"), (1, "bad")]
        for order in itertools.permutations(trials):
            self.assertEqual(known(NET, list(order), 1), known(NET, trials, 1))

    def test_no_truth_with_its_rows(self):
        trials = [(0, "good"), (4, "cannot"), (0, "bad"), (4, "good"), (5, "good"), (5, "bad")]
        self.refused(
            NoTruth, {"rows": [[0], [2], [2], [2], [2], [2]]}, known, NET, trials)
        self.refused(
            NoTruth, {"rows": [[0, 4], [2, 5], [2, 4], [2, 5], [2, 3], [2, 4]]},
            known, NET, trials, 1)
        self.assertEqual(
            known(NET, trials, 2), ((0, 2), (1, 2), (2, 2), (3, 2), (5, 2)))

    def test_no_truth_by_each_number_of_lies(self):
        for lies in range(4):
            trials = [(0, "bad"), (0, "good")] * lies + [(0, "good")]
            places = [2 * place + 1 for place in range(lies)] + [2 * lies]
            self.assertEqual(known(((),), trials[:-1], lies), ((0, lies),))
            self.refused(NoTruth, {"rows": [places]}, known, ((),), trials, lies)

    def test_rows_of_no_truth_are_the_askers_own(self):
        trials = [(0, "good")]
        for _ in range(2):
            with self.assertRaises(NoTruth) as held:
                known(((),), trials)
            self.assertEqual(held.exception.rows, [[0]])
            held.exception.rows[0].append(9)

    def test_no_trial_goes_ahead_of_no_truth(self):
        trials = [(0, "good"), (0, "bad")]
        self.refused(NoTruth, {"rows": [[0]]}, known, ((),), trials)
        for none in (1, -1, BIG, -BIG):
            self.refused(NoTrial, {"place": 2}, known, ((),), trials + [(none, "bad")])
            self.refused(NoTrial, {"place": 0}, known, ((),), [(none, "cannot")] + trials)
        for answer in ("", "Bad", "left", "goodbad"):
            self.refused(NoTrial, {"place": 2}, known, ((),), trials + [(0, answer), (1, "")], 3)

    def test_two_hundred_trials_of_forty_makes(self):
        net = full_net(40)
        trials = [(20, "bad"), (19, "good")] * 98 + [(39, "good"), (0, "bad")] + [(3, "cannot")] * 2
        with within(60):
            self.assertEqual(known(net, trials, 2), ((20, 2),))
            self.assertEqual(known(net, trials, 3), ((20, 2),))
            with self.assertRaises(NoTruth) as held:
                known(net, trials, 1)
        self.assertEqual(held.exception.rows[20], [196, 197])
        self.assertEqual(held.exception.rows[19], [1, 3])
        self.assertEqual(held.exception.rows[21], [0, 2])


class BehindTest(Asking):
    STAND = ((0, 0), (2, 1), (3, 0), (4, 1), (5, 0))

    def test_with_each_answer(self):
        self.assertEqual(
            behind(NET, self.STAND, 3, "bad", 1), ((0, 0), (2, 1), (3, 0), (5, 1)))
        self.assertEqual(behind(NET, self.STAND, 3, "good", 1), ((0, 1), (3, 1), (4, 1), (5, 0)))
        self.assertEqual(
            behind(NET, self.STAND, 3, "good", 2), ((0, 1), (2, 2), (3, 1), (4, 1), (5, 0)))
        self.assertEqual(behind(NET, self.STAND, 3, "cannot", 1), self.STAND)

    def test_no_lies_unless_told(self):
        stand = ((0, 0), (1, 0), (4, 0))
        self.assertEqual(behind(NET, stand, 1, "bad"), ((0, 0), (1, 0)))
        self.assertEqual(behind(NET, stand, 1, "good"), ((4, 0),))

    def test_it_may_be_empty(self):
        self.assertEqual(behind(NET, ((4, 0),), 3, "bad"), ())
        self.assertEqual(behind(NET, ((0, 2), (1, 2)), 3, "good", 2), ())
        for answer in ANSWERS:
            for lies in range(4):
                self.assertEqual(behind(NET, (), 3, answer, lies), ())

    def test_known_is_all_makes_behind_each_trial_in_any_order(self):
        chance = random.Random(3)
        for _ in range(300):
            net = some_net(chance, 6)
            lies = chance.randint(0, 3)
            trials = some_trials(chance, net, 6)
            for _ in range(4):
                chance.shuffle(trials)
                stand = stand_of(range(len(net)))
                for make, answer in trials:
                    stand = self.told(behind, net, stand, make, answer, lies)
                if stand:
                    self.assertEqual(known(net, trials, lies), stand)
                else:
                    with self.assertRaises(NoTruth):
                        known(net, trials, lies)

    def test_kinds_of_what_is_told(self):
        for answer in ANSWERS:
            told = behind(NET, self.STAND, 3, answer, 1)
            self.assertIs(type(told), tuple)
            self.assertEqual({type(pair) for pair in told}, {tuple})

    def test_no_make(self):
        for none in (-1, -6, 6, 40, BIG, -BIG):
            for answer in ANSWERS:
                self.refused(NoMake, {"make": none}, behind, NET, self.STAND, none, answer, 1)
                self.refused(NoMake, {"make": none}, behind, NET, (), none, answer)


class MakesTest(Asking):
    def test_makes_of(self):
        self.assertEqual(makes_of(((0, 1), (2, 0), (39, 3))), (0, 2, 39))
        self.assertEqual(makes_of(()), ())
        self.assertIs(type(makes_of(((0, 1),))), tuple)

    def test_stand_of(self):
        self.assertEqual(self.told(stand_of, [3, 0, 2, 3, 3]), ((0, 0), (2, 0), (3, 0)))
        self.assertEqual(stand_of((5, 4)), ((4, 0), (5, 0)))
        self.assertEqual(stand_of([]), ())
        self.assertEqual(stand_of([10, 9, 39, 1]), ((1, 0), (9, 0), (10, 0), (39, 0)))

    def test_there_and_back(self):
        chance = random.Random(4)
        for _ in range(100):
            makes = some_makes(chance, line(40))
            self.assertEqual(makes_of(stand_of(makes)), tuple(sorted(set(makes))))


if __name__ == "__main__":
    unittest.main()
