"""Points 2 and 31: how many rounds a line has."""

import random
import unittest

from badbegins import linerounds
from badbegins.linerounds import line_rounds
from badbegins.rounds import rounds_of

from helping import Asking, line, within


def least_rounds(n, w):
    """The least r such that n is at most (w + 1) ** r."""
    return next(r for r in range(n + 1) if n <= (w + 1) ** r)


class LineRoundsTest(Asking):
    def test_defined_here(self):
        self.assertEqual(line_rounds.__module__, linerounds.__name__)

    def told_right(self, n, w):
        told = line_rounds(n, w)
        self.assertEqual([type(told), type(told[0]), type(told[1])], [tuple, int, list])
        rounds, left = told
        self.assertEqual(rounds, least_rounds(n, w))
        self.assertEqual(len(left), rounds + 1)
        self.assertEqual((left[0], left[-1]), (n, 1))
        for ahead, behind in zip(left, left[1:]):
            whole, rest = divmod(ahead, w + 1)
            self.assertEqual(behind, whole + (rest > 0))

    def test_some(self):
        self.assertEqual(line_rounds(1, 1), (0, [1]))
        self.assertEqual(line_rounds(1, 10 ** 6), (0, [1]))
        self.assertEqual(line_rounds(2, 1), (1, [2, 1]))
        self.assertEqual(line_rounds(10, 1), (4, [10, 5, 3, 2, 1]))
        self.assertEqual(line_rounds(10, 2), (3, [10, 4, 2, 1]))
        self.assertEqual(line_rounds(9, 2), (2, [9, 3, 1]))
        self.assertEqual(line_rounds(10, 9), (1, [10, 1]))
        self.assertEqual(line_rounds(11, 9), (2, [11, 2, 1]))
        self.assertEqual(line_rounds(1000, 3), (5, [1000, 250, 63, 16, 4, 1]))

    def test_all_short_ones(self):
        for n in range(1, 300):
            for w in range(1, 20):
                self.told_right(n, w)

    def test_about_powers(self):
        for w in (1, 2, 3, 9, 10 ** 3, 10 ** 6):
            power = 1
            while power < 10 ** 60:
                for n in (power - 1, power, power + 1):
                    if 1 <= n <= 10 ** 60:
                        self.told_right(n, w)
                power *= w + 1

    def test_great_ones(self):
        with within(20):
            self.assertEqual(line_rounds(10 ** 60, 1)[0], 200)
            self.assertEqual(line_rounds(10 ** 60, 9), (60, [10 ** (60 - r) for r in range(61)]))
            self.assertEqual(line_rounds(10 ** 60, 10 ** 6)[0], 10)
            self.assertEqual(line_rounds(10 ** 60, 10 ** 6 - 1), (10, [10 ** (60 - 6 * r) for r in range(11)]))
            self.assertEqual(line_rounds(10 ** 6 + 1, 10 ** 6), (1, [10 ** 6 + 1, 1]))
            self.assertEqual(line_rounds(10 ** 6 + 2, 10 ** 6), (2, [10 ** 6 + 2, 2, 1]))
            chance = random.Random(1)
            for _ in range(200):
                self.told_right(chance.randint(1, 10 ** 60), chance.choice([1, 2, 3, 10 ** 6]))

    def test_of_nets_there_are(self):
        for n in range(1, 7):
            for w in (1, 2, 3):
                self.assertEqual(line_rounds(n, w)[0], rounds_of(line(n), range(n), w))

    def test_told_lists_are_new_ones(self):
        for n in (1, 10):
            line_rounds(n, 1)[1].append(9)
            self.assertNotIn(9, line_rounds(n, 1)[1])


if __name__ == "__main__":
    unittest.main()
