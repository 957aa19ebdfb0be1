"""Points 2, 7, 8, 9 and 12: trials, what they speak against, true answers, barred makes."""

import unittest

from badbegins import trials as trials_file
from badbegins.errors import NoMake, NoTrial
from badbegins.trials import against, barred_by, speaks_against, true_answer

from helping import BIG, Asking, comes, full_net, line, small_nets, within

NET = ((), (0,), (0,), (1, 2), (), (2, 4))
ANSWERS = ("bad", "good", "cannot")
NO_ANSWERS = (
    "", " ", "ba", "goo", "can", "not", "Bad", "GOOD", "bad ", " good", "badgood", "none", "cannot\n",
    "left", "true", "0", "x" * 9000,
)
NO_MAKES = (-1, -2, -6, 6, 7, 40, BIG, -BIG)


def every_trial(net):
    return [(make, answer) for make in range(len(net)) for answer in ANSWERS]


class SpeaksTest(Asking):
    def test_defined_here(self):
        for call in (speaks_against, against, true_answer, barred_by):
            self.assertEqual(call.__module__, trials_file.__name__)

    def test_bad_speaks_against_those_of_which_the_tried_make_does_not_come(self):
        told = [speaks_against(NET, (3, "bad"), make) for make in range(6)]
        self.assertEqual(told, [False, False, False, False, True, True])

    def test_good_speaks_against_those_of_which_it_comes(self):
        told = [speaks_against(NET, (3, "good"), make) for make in range(6)]
        self.assertEqual(told, [True, True, True, True, False, False])

    def test_cannot_speaks_against_none(self):
        for tried in range(6):
            for make in range(6):
                self.assertIs(speaks_against(NET, (tried, "cannot"), make), False)

    def test_of_the_tried_make_itself(self):
        for make in range(6):
            self.assertIs(speaks_against(NET, (make, "good"), make), True)
            self.assertIs(speaks_against(NET, (make, "bad"), make), False)

    def test_every_small_net(self):
        for net in small_nets(4):
            for tried, answer in every_trial(net):
                for make in range(len(net)):
                    came = comes(net, tried, make)
                    lie = (answer == "bad" and not came) or (answer == "good" and came)
                    self.assertIs(speaks_against(net, (tried, answer), make), lie)
                    self.assertIs(
                        speaks_against(net, (tried, answer), make),
                        answer != "cannot" and answer != true_answer(net, make, tried))

    def test_what_is_no_trial(self):
        for make in NO_MAKES:
            for answer in ANSWERS:
                self.refused(NoTrial, {"place": 0}, speaks_against, NET, (make, answer), 0)
        for answer in NO_ANSWERS:
            self.refused(NoTrial, {"place": 0}, speaks_against, NET, (0, answer), 0)

    def test_no_trial_goes_ahead_of_no_make(self):
        for make in NO_MAKES:
            self.refused(NoTrial, {"place": 0}, speaks_against, NET, (6, "bad"), make)
            self.refused(NoTrial, {"place": 0}, speaks_against, NET, (0, "worse"), make)
            for answer in ANSWERS:
                self.refused(NoMake, {"make": make}, speaks_against, NET, (0, answer), make)


class AgainstTest(Asking):
    def test_places_rising(self):
        trials = [(3, "bad"), (5, "good"), (4, "cannot"), (3, "bad"), (1, "good"), (0, "bad")]
        self.assertEqual(against(NET, trials, 0), [1, 4])
        self.assertEqual(against(NET, trials, 1), [4, 5])
        self.assertEqual(against(NET, trials, 2), [1, 5])
        self.assertEqual(against(NET, trials, 3), [5])
        self.assertEqual(against(NET, trials, 4), [0, 1, 3, 5])

    def test_no_trials(self):
        self.assertEqual(against(NET, [], 3), [])
        self.assertEqual(against(NET, (), 3), [])

    def test_one_make_tried_often_with_unlike_answers(self):
        trials = [(2, "good"), (2, "bad"), (2, "cannot"), (2, "good"), (2, "bad")]
        self.assertEqual(against(NET, trials, 0), [0, 3])
        self.assertEqual(against(NET, trials, 1), [1, 4])

    def test_every_small_net(self):
        for net in small_nets(4):
            trials = every_trial(net) * 2
            for make in range(len(net)):
                told = self.told(against, net, trials, make)
                self.assertEqual(told, [
                    place for place, trial in enumerate(trials) if speaks_against(net, trial, make)])

    def test_trials_as_a_tuple(self):
        self.assertEqual(against(NET, ((1, "bad"), (0, "bad")), 5), [0, 1])

    def test_told_lists_are_new_ones(self):
        trials = [(0, "bad")]
        first = against(NET, trials, 4)
        first.append(9)
        self.assertEqual(against(NET, trials, 4), [0])
        none = against(NET, [], 4)
        none.append(9)
        self.assertEqual(against(NET, [], 4), [])

    def test_two_hundred_trials_of_forty_makes(self):
        net = full_net(40)
        trials = [(place % 40, ANSWERS[place % 3]) for place in range(200)]
        with within(60):
            for make in range(40):
                self.assertEqual(against(net, trials, make), [
                    place for place, (tried, answer) in enumerate(trials)
                    if answer == ("good" if tried >= make else "bad")])

    def test_the_first_that_is_no_trial(self):
        right = [(0, "bad"), (5, "cannot")]
        for make in NO_MAKES:
            self.refused(NoTrial, {"place": 2}, against, NET, right + [(make, "bad"), (0, "x")], 0)
            self.refused(NoTrial, {"place": 0}, against, NET, [(make, "cannot")] + right, 0)
        for answer in NO_ANSWERS:
            self.refused(NoTrial, {"place": 1}, against, NET, [(3, "good"), (3, answer), (9, "")], 0)
        self.refused(NoTrial, {"place": 199}, against, NET, [(0, "bad")] * 199 + [(6, "bad")], 0)
        self.refused(NoTrial, {"place": 1}, against, NET, ((0, "bad"), (-1, "bad")), 0)

    def test_no_trial_goes_ahead_of_no_make(self):
        for make in NO_MAKES:
            self.refused(NoTrial, {"place": 1}, against, NET, [(0, "bad"), (6, "bad")], make)
            self.refused(NoTrial, {"place": 0}, against, NET, [(0, "")], make)
            self.refused(NoMake, {"make": make}, against, NET, [(0, "bad")], make)
            self.refused(NoMake, {"make": make}, against, NET, [(0, "cannot")], make)
            self.refused(NoMake, {"make": make}, against, NET, [], make)


class TrueAnswerTest(Asking):
    def test_by_where_badness_began(self):
        self.assertEqual([true_answer(NET, 2, make) for make in range(6)],
                         ["good", "good", "bad", "bad", "good", "bad"])
        self.assertEqual([true_answer(NET, 0, make) for make in range(6)],
                         ["bad", "bad", "bad", "bad", "good", "bad"])

    def test_there_itself(self):
        for make in range(6):
            self.assertEqual(true_answer(NET, make, make), "bad")

    def test_every_small_net(self):
        for net in small_nets(4):
            for first in range(len(net)):
                for make in range(len(net)):
                    self.assertEqual(
                        true_answer(net, first, make), "bad" if comes(net, make, first) else "good")

    def test_no_make_the_first_from_the_left(self):
        for none in NO_MAKES:
            self.refused(NoMake, {"make": none}, true_answer, NET, none, 0)
            self.refused(NoMake, {"make": none}, true_answer, NET, 0, none)
            self.refused(NoMake, {"make": none}, true_answer, NET, none, none)
        self.refused(NoMake, {"make": -1}, true_answer, NET, -1, 6)
        self.refused(NoMake, {"make": 6}, true_answer, NET, 6, -1)


class BarredTest(Asking):
    def test_all_with_cannot_rising_and_each_once(self):
        trials = [(5, "cannot"), (0, "bad"), (2, "cannot"), (5, "cannot"), (3, "cannot")]
        self.assertEqual(self.told(barred_by, NET, trials), (2, 3, 5))
        self.assertIs(type(barred_by(NET, trials)), tuple)

    def test_whatever_else_was_told_of_them(self):
        self.assertEqual(barred_by(NET, [(1, "bad"), (1, "cannot"), (1, "good")]), (1,))
        self.assertEqual(barred_by(NET, [(1, "cannot"), (1, "bad"), (4, "good")]), (1,))

    def test_none(self):
        self.assertEqual(barred_by(NET, []), ())
        self.assertEqual(barred_by(NET, ()), ())
        self.assertEqual(barred_by(NET, [(1, "bad"), (2, "good")]), ())

    def test_all_forty(self):
        trials = [(make, "cannot") for make in range(39, -1, -1)]
        self.assertEqual(barred_by(line(40), trials), tuple(range(40)))

    def test_what_is_no_trial(self):
        for make in NO_MAKES:
            for answer in ANSWERS:
                self.refused(NoTrial, {"place": 1}, barred_by, NET, [(0, "cannot"), (make, answer)])
        for answer in NO_ANSWERS:
            self.refused(NoTrial, {"place": 0}, barred_by, NET, [(0, answer), (9, "bad")])


if __name__ == "__main__":
    unittest.main()
