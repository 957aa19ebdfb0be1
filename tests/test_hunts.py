"""Points 2, 3 and 32: hunts."""

import itertools
import random
import unittest

from badbegins import hunts
from badbegins.apart import settled
from badbegins.books import book_of, number_of
from badbegins.errors import HuntError, NoTrial, NoTruth, NothingTold, TooGreat
from badbegins.halves import halving_make
from badbegins.hunts import Hunt
from badbegins.stands import known, makes_of
from badbegins.trials import against, barred_by, true_answer

from helping import BIG, Asking, comes, full_net, line, some_net, within

NET = ((), (0,), (0,), (1, 2), (), (2, 4))
ANSWERS = ("bad", "good", "cannot")
MOST = (10, 6, 4, 3)


def some_prices(chance, net):
    return chance.choice([None, [chance.randint(1, 4) for _ in net], [10 ** 30] * len(net)])


def all_told(hunt):
    """All that the hunt tells, a refusal in the place of what it refuses."""
    rows = []
    for call in (
        hunt.told, hunt.known, hunt.barred, hunt.settled, hunt.number, hunt.next_make, hunt.left,
    ):
        try:
            rows.append(call())
        except HuntError as error:
            rows.append((type(error), vars(error)))
    return rows


def told_by_words(net, lies, prices, trials):
    """The same, by the words of point 32."""
    stand, barred = known(net, trials, lies), barred_by(net, trials)
    makes = makes_of(stand)
    is_settled = settled(net, makes, barred)
    if not is_settled and len(makes) > MOST[lies]:
        number, make = (TooGreat, {"many": len(makes)}), halving_make(net, makes, barred)
    else:
        number = number_of(net, stand, barred, lies, prices)
        make = [entry[2] for entry in book_of(net, stand, barred, lies, prices) if entry[0] == stand][0]
    return [trials, stand, barred, is_settled, number, make, makes if is_settled else None]


class HuntCase(Asking):
    def refused_unchanged(self, kind, fields, hunt, call, *given):
        before = all_told(hunt)
        self.refused(kind, fields, call, *given)
        self.assertEqual(all_told(hunt), before)


class HuntTest(HuntCase):
    def test_defined_here(self):
        self.assertEqual(Hunt.__module__, hunts.__name__)
        for name in ("tell", "back", "told", "known", "barred", "settled", "number", "next_make", "left", "twin"):
            self.assertIn(name, vars(Hunt))

    def test_at_first(self):
        for lies in range(4):
            hunt = Hunt(NET, lies)
            self.assertEqual(hunt.told(), [])
            self.assertEqual(hunt.known(), tuple((make, 0) for make in range(6)))
            self.assertEqual(hunt.barred(), ())
            self.assertIs(hunt.settled(), False)
            self.assertIsNone(hunt.left())

    def test_a_hunt(self):
        hunt = Hunt(NET)
        self.assertEqual((hunt.number(), hunt.next_make()), (3, 1))
        self.assertIsNone(hunt.tell(1, "good"))
        self.assertEqual(hunt.known(), ((2, 0), (3, 0), (4, 0), (5, 0)))
        self.assertEqual((hunt.number(), hunt.next_make()), (2, 3))
        self.assertIsNone(hunt.tell(3, "cannot"))
        self.assertEqual(hunt.barred(), (3,))
        self.assertEqual((hunt.number(), hunt.next_make()), (3, 2))
        hunt.tell(5, "bad")
        hunt.tell(2, "bad")
        self.assertEqual(hunt.known(), ((2, 0),))
        self.assertIs(hunt.settled(), True)
        self.assertEqual((hunt.number(), hunt.next_make(), hunt.left()), (0, None, (2,)))
        self.assertEqual(hunt.told(), [(1, "good"), (3, "cannot"), (5, "bad"), (2, "bad")])
        self.assertIsNone(hunt.back())
        self.assertEqual(hunt.told(), [(1, "good"), (3, "cannot"), (5, "bad")])
        self.assertEqual(hunt.known(), ((2, 0), (4, 0), (5, 0)))
        self.assertIsNone(hunt.left())

    def test_barred_ones_are_gone_by(self):
        hunt = Hunt(line(4))
        for make in (0, 1, 2):
            hunt.tell(make, "cannot")
        self.assertEqual(hunt.barred(), (0, 1, 2))
        self.assertIs(hunt.settled(), True)
        self.assertEqual((hunt.number(), hunt.next_make(), hunt.left()), (0, None, (0, 1, 2, 3)))
        hunt.tell(1, "bad")
        self.assertEqual(hunt.barred(), (0, 1, 2))
        self.assertEqual(hunt.left(), (0, 1))

    def test_prices_and_lies_are_gone_by(self):
        hunt = Hunt(line(3), 0, [3, 1, 1])
        self.assertEqual((hunt.number(), hunt.next_make()), (4, 0))
        hunt = Hunt(line(3), 0, (1, 5, 1))
        self.assertEqual((hunt.number(), hunt.next_make()), (6, 0))
        hunt = Hunt(line(2), 1)
        self.assertEqual(hunt.number(), 3)
        hunt.tell(0, "good")
        self.assertEqual((hunt.known(), hunt.number()), (((0, 1), (1, 0)), 2))
        hunt.tell(0, "bad")
        self.assertEqual((hunt.known(), hunt.number(), hunt.left()), (((0, 1), (1, 1)), 1, None))
        hunt.tell(0, "bad")
        self.assertEqual((hunt.known(), hunt.number(), hunt.left()), (((0, 1),), 0, (0,)))
        self.assertEqual(Hunt(line(2), lies=1, prices=[7, 1]).number(), 21)

    def test_a_make_may_be_told_several_times(self):
        hunt = Hunt(NET, 2)
        for answer in ("bad", "good", "cannot", "good"):
            hunt.tell(5, answer)
        self.assertEqual(hunt.known(), ((0, 2), (1, 1), (2, 2), (3, 1), (4, 2), (5, 2)))

    def test_kinds_of_what_is_told(self):
        hunt = Hunt(NET, 1)
        for answer in ("cannot", "bad", "bad", "bad", "bad"):
            kinds = [type(row) for row in all_told(hunt)]
            self.assertEqual(kinds[:5], [list, tuple, tuple, bool, int])
            self.assertIn(kinds[5:], [[int, type(None)], [type(None), tuple]])
            hunt.tell(0, answer)
        self.assertEqual([type(trial) for trial in hunt.told()], [tuple] * 5)
        self.assertIs(type(hunt.left()), tuple)

    def test_by_chance(self):
        chance = random.Random(1)
        for _ in range(120):
            net = some_net(chance, 7)
            lies, prices = chance.randint(0, 3), some_prices(chance, net)
            hunt, trials = Hunt(net, lies, prices), []
            for _ in range(chance.randint(0, 8)):
                make, answer = chance.randrange(len(net)), chance.choice(ANSWERS)
                rows = [against(net, [*trials, (make, answer)], one) for one in range(len(net))]
                if chance.random() < 0.2 and trials:
                    hunt.back()
                    trials.pop()
                elif all(len(row) > lies for row in rows):
                    self.refused_unchanged(
                        NoTruth, {"rows": [row[:lies + 1] for row in rows]}, hunt, hunt.tell, make, answer)
                else:
                    hunt.tell(make, answer)
                    trials.append((make, answer))
                self.assertEqual(all_told(hunt), told_by_words(net, lies, prices, trials))

    def test_in_which_order_trials_were_told_changes_nothing(self):
        trials = [(3, "bad"), (5, "good"), (4, "cannot"), (1, "good")]
        rows = []
        for order in itertools.permutations(trials):
            hunt = Hunt(NET, 1, [1, 2, 3, 4, 5, 6])
            for trial in order:
                hunt.tell(*trial)
            rows.append(all_told(hunt)[1:])
        self.assertEqual(rows, rows[:1] * 24)


class RefusedTest(HuntCase):
    def test_no_trial(self):
        hunt = Hunt(NET, 1)
        for place in range(4):
            for none in (-1, -6, 6, 40, BIG, -BIG):
                for answer in (*ANSWERS, "", "maybe"):
                    self.refused_unchanged(NoTrial, {"place": place}, hunt, hunt.tell, none, answer)
            for answer in ("", "Bad", "bad ", "none", "goodbad", "can"):
                self.refused_unchanged(NoTrial, {"place": place}, hunt, hunt.tell, 1, answer)
            hunt.tell(1, "bad")
        hunt.back()
        self.refused_unchanged(NoTrial, {"place": 3}, hunt, hunt.tell, 6, "bad")

    def test_no_truth_with_the_new_one_behind_the_others(self):
        hunt = Hunt(((),))
        self.refused_unchanged(NoTruth, {"rows": [[0]]}, hunt, hunt.tell, 0, "good")
        hunt.tell(0, "bad")
        self.refused_unchanged(NoTruth, {"rows": [[1]]}, hunt, hunt.tell, 0, "good")
        hunt = Hunt(line(2), 1)
        for trial in ((0, "good"), (0, "bad"), (1, "cannot"), (1, "bad")):
            hunt.tell(*trial)
        self.assertEqual(hunt.known(), ((0, 1), (1, 1)))
        self.refused_unchanged(NoTruth, {"rows": [[0, 4], [1, 4]]}, hunt, hunt.tell, 1, "good")
        hunt.tell(0, "good")
        self.assertEqual(hunt.left(), (1,))
        self.refused_unchanged(NoTruth, {"rows": [[0, 4], [1, 5]]}, hunt, hunt.tell, 0, "bad")

    def test_rows_of_no_truth_are_the_askers_own(self):
        hunt = Hunt(((),))
        for _ in range(2):
            with self.assertRaises(NoTruth) as held:
                hunt.tell(0, "good")
            self.assertEqual(held.exception.rows, [[0]])
            held.exception.rows[0].append(9)

    def test_nothing_told(self):
        hunt = Hunt(NET, 1)
        self.refused_unchanged(NothingTold, {}, hunt, hunt.back)
        hunt.tell(1, "bad")
        hunt.tell(1, "cannot")
        hunt.back()
        hunt.back()
        self.refused_unchanged(NothingTold, {}, hunt, hunt.back)
        self.assertEqual(all_told(hunt), all_told(Hunt(NET, 1)))

    def test_too_great(self):
        for lies, most in enumerate(MOST):
            for many in (most, most + 1, 39):
                hunt = Hunt(line(40), lies)
                # Told more often than trials can lie.
                for _ in range(lies + 1):
                    hunt.tell(many - 1, "bad")
                self.assertEqual(len(hunt.known()), many)
                if many > most:
                    self.refused_unchanged(TooGreat, {"many": many}, hunt, hunt.number)
                    half = many // 2 - 1
                    self.assertEqual(hunt.next_make(), half)
                    hunt.tell(half, "cannot")
                    self.assertEqual(hunt.next_make(), halving_make(line(40), range(many), [half]))
                    self.assertNotEqual(hunt.next_make(), half)
                else:
                    self.assertEqual(hunt.number(), number_of(line(40), hunt.known(), None, lies))

    def test_settled_ones_are_not_too_great(self):
        for lies in range(4):
            hunt = Hunt(line(40), lies)
            for make in range(39):
                hunt.tell(make, "cannot")
            self.assertEqual((hunt.settled(), hunt.number(), hunt.next_make()), (True, 0, None))
            self.assertEqual(hunt.left(), tuple(range(40)))


class CopyTest(HuntCase):
    def test_prices_are_kept_as_a_copy(self):
        prices = [1, 2, 3, 4, 5, 6]
        hunt = Hunt(NET, 0, prices)
        before = all_told(hunt)
        prices[:] = [9]
        self.assertEqual(all_told(hunt), before)

    def test_nothing_handed_in_is_changed(self):
        prices = [1, 2, 3, 4, 5, 6]
        hunt = Hunt(NET, 0, prices)
        hunt.tell(1, "bad")
        all_told(hunt)
        self.assertEqual(prices, [1, 2, 3, 4, 5, 6])

    def test_told_lists_are_new_ones(self):
        hunt = Hunt(NET)
        for _ in range(2):
            hunt.told().append((0, "good"))
            self.assertNotIn((0, "good"), hunt.told())
            hunt.tell(1, "bad")
        held = hunt.told()
        hunt.tell(0, "bad")
        self.assertEqual(held, [(1, "bad")] * 2)
        hunt.back()
        hunt.back()
        self.assertEqual(held, [(1, "bad")] * 2)

    def test_what_is_asked_changes_nothing(self):
        hunt = Hunt(NET, 1, [1, 2, 3, 4, 5, 6])
        hunt.tell(3, "bad")
        self.assertEqual([all_told(hunt) for _ in range(3)], [all_told(hunt)] * 3)


class TwinTest(HuntCase):
    def test_the_same_trials(self):
        hunt = Hunt(NET, 1, [1, 2, 3, 4, 5, 6])
        for trial in ((3, "bad"), (4, "cannot"), (1, "good")):
            self.assertEqual(all_told(hunt.twin()), all_told(hunt))
            self.assertIs(type(hunt.twin()), Hunt)
            self.assertIsNot(hunt.twin(), hunt)
            hunt.tell(*trial)

    def test_what_is_done_to_one_changes_nothing_of_the_other(self):
        hunt = Hunt(NET, 1)
        hunt.tell(3, "bad")
        twin = hunt.twin()
        before = all_told(hunt)
        for change in (
            lambda one: one.tell(1, "good"), lambda one: one.back(), lambda one: one.told().clear(),
            lambda one: one.back(),
        ):
            change(twin)
            self.assertEqual(all_told(hunt), before)
        self.assertEqual(twin.told(), [])
        twin = hunt.twin()
        for change in (lambda one: one.tell(1, "good"), lambda one: one.back(), lambda one: one.back()):
            change(hunt)
            self.assertEqual(all_told(twin), before)

    def test_a_twin_of_a_twin(self):
        hunt = Hunt(NET, 2, [6, 5, 4, 3, 2, 1])
        hunt.tell(3, "bad")
        one = hunt.twin()
        one.tell(1, "good")
        other = one.twin()
        other.tell(5, "bad")
        self.assertEqual([len(each.told()) for each in (hunt, one, other)], [1, 2, 3])
        self.assertEqual(all_told(other), told_by_words(
            NET, 2, [6, 5, 4, 3, 2, 1], [(3, "bad"), (1, "good"), (5, "bad")]))


def led(chance, hunt, net, first, lies):
    """The makes tried, badness begun there and at most so many trials lying, till nothing is useful."""
    tried = []
    while (make := hunt.next_make()) is not None:
        answer = true_answer(net, first, make)
        if lies > 0 and chance.random() < 0.5:
            answer, lies = ("good" if answer == "bad" else "bad"), lies - 1
        hunt.tell(make, answer)
        tried.append(make)
    return tried


class LedTest(Asking):
    def test_within_as_many_answers_as_told(self):
        chance = random.Random(2)
        for _ in range(250):
            lies = chance.choice([0, 0, 1, 2, 3])
            net = some_net(chance, MOST[lies])
            prices = some_prices(chance, net)
            for first in range(len(net)):
                hunt = Hunt(net, lies, prices)
                number = hunt.number()
                tried = led(chance, hunt, net, first, chance.randint(0, lies))
                self.assertLessEqual(
                    sum(1 if prices is None else prices[make] for make in tried), number)
                # Without barred ones no two makes are alike.
                self.assertEqual(hunt.left(), (first,))

    def test_where_some_can_not_be_tried(self):
        chance = random.Random(3)
        for _ in range(100):
            lies = chance.choice([0, 0, 1, 2])
            net = some_net(chance, MOST[lies])
            first = chance.randrange(len(net))
            hunt = Hunt(net, lies)
            barred = chance.sample(range(len(net)), chance.randint(0, len(net)))
            for make in barred:
                hunt.tell(make, "cannot")
            number = hunt.number()
            self.assertLessEqual(len(led(chance, hunt, net, first, lies)), number)
            alike = tuple(
                make for make in range(len(net)) if all(
                    comes(net, one, make) == comes(net, one, first)
                    for one in range(len(net)) if one not in barred))
            self.assertLessEqual(set(hunt.left()), set(alike))
            self.assertIn(first, hunt.left())
            if lies == 0:
                self.assertEqual(hunt.left(), alike)

    def test_where_the_least_number_is_too_great_at_first(self):
        chance = random.Random(4)
        with within(300):
            for lies in range(4):
                for net in (line(40), full_net(40), some_net(chance, 40)):
                    for first in (0, len(net) // 2, len(net) - 1):
                        hunt = Hunt(net, lies)
                        tried = led(chance, hunt, net, first, lies)
                        self.assertEqual(hunt.left(), (first,))
                        self.assertLess(len(tried), 200)

    def test_two_hundred_trials(self):
        hunt = Hunt(line(40), 3)
        with within(60):
            for _ in range(40):
                for make, answer in ((39, "bad"), (20, "bad"), (19, "good"), (1, "cannot"), (30, "bad")):
                    hunt.tell(make, answer)
        self.assertEqual(len(hunt.told()), 200)
        self.assertEqual(hunt.left(), (20,))


if __name__ == "__main__":
    unittest.main()
