"""Points 23 and 24: the exact chance of ruin for ever."""

import random
import unittest
from fractions import Fraction

from lastcoffer.chances import mean, sum_of
from lastcoffer.exact import exact_ruin, is_certain, least_reserve
from common import HUGE, even, pair, read, refused, some_spread, untouched

STILL = [(0, (1, 1))]
WALK = [(-1, (1, 3)), (1, (2, 3))]


def plain_ruins(spread, most):
    """Return the chances of ruin for ever of the reserves from 0 on, by the words of point 24."""
    chances = {value: read(chance) for value, chance in spread}
    p = chances[1]
    s = [sum(value * chance for value, chance in chances.items()) / p]
    for r in range(most):
        s.append((s[r] - sum(chance * s[r + v] for v, chance in chances.items() if -r <= v <= 0)) / p)
    return [1 - part for part in s]


def some_gain(seed, size, loss):
    """Return a spread with a mean above 0 and no value above 1."""
    chooser = random.Random(seed)
    values = chooser.sample(range(-loss, 1), min(size, loss + 1))
    weights = {value: chooser.randint(1, 9) for value in values}
    weights[1] = sum(-value * weight for value, weight in weights.items()) + chooser.randint(1, 9)
    low = sum(weights.values())
    return [(value, pair(Fraction(weights[value], low))) for value in sorted(weights)]


class Certain(unittest.TestCase):
    def test_the_mean(self):
        for spread, expected in (([(-1, (1, 2)), (1, (1, 2))], True), (WALK, False), ([(-1, (2, 3)), (1, (1, 3))], True),
                                 ([(-2, (1, 3)), (1, (2, 3))], True), ([(-2, (1, 4)), (1, (3, 4))], False),
                                 ([(-1, (1, 1))], True), ([(1, (1, 1))], False), ([(-1, (1, 9)), (0, (8, 9))], True),
                                 ([(0, (8, 9)), (1, (1, 9))], False), ([(-5, (2, 7)), (2, (5, 7))], True),
                                 ([(-5, (1, 4)), (2, (3, 4))], False),
                                 ([(-3000, (1, 3001)), (1, (3000, 3001))], True),
                                 ([(-3000, (1, 3002)), (1, (3001, 3002))], False), ([(7, (1, 1))], False)):
            self.assertIs(untouched(self, is_certain, spread), expected, spread)

    def test_the_value_0_alone(self):
        self.assertIs(is_certain(STILL), False)
        for value in (-1, -3000):
            self.assertIs(is_certain([(value, (1, 1))]), True)
        for value in (1, 1000):
            self.assertIs(is_certain([(value, (1, 1))]), False)
        self.assertIs(is_certain([(-1, (1, HUGE)), (0, (HUGE - 2, HUGE)), (1, (1, HUGE))]), True)

    def test_against_the_mean(self):
        for seed in range(200):
            spread = some_spread(seed, 1 + seed % 5, -6, 6)
            expected = sum(value * read(chance) for value, chance in spread) <= 0 and spread != STILL
            self.assertIs(is_certain(spread), expected, spread)


class Ruin(unittest.TestCase):
    def test_a_walk(self):
        for reserve in (0, 1, 2, 57, 199, 200):
            self.assertEqual(untouched(self, exact_ruin, WALK, reserve), (1, 2 ** (reserve + 1)))
        for top in (1, 2, 7):
            spread = [(-1, (top, 2 * top + 1)), (1, (top + 1, 2 * top + 1))]
            for reserve in (0, 3, 200):
                self.assertEqual(exact_ruin(spread, reserve), (top ** (reserve + 1), (top + 1) ** (reserve + 1)))

    def test_by_hand(self):
        # s(0) = 1/4 / (3/4), s(1) = 4/9, s(2) = 16/27, s(3) = (16/27 - 1/12) / (3/4).
        spread = [(-2, (1, 4)), (1, (3, 4))]
        self.assertEqual([exact_ruin(spread, r) for r in range(4)], [(2, 3), (5, 9), (11, 27), (26, 81)])
        # A year without a change puts off, and changes nothing else.
        slow = [(-2, (1, 8)), (0, (1, 2)), (1, (3, 8))]
        for reserve in range(30):
            self.assertEqual(exact_ruin(slow, reserve), exact_ruin(spread, reserve))

    def test_no_loss(self):
        for spread in ([(1, (1, 1))], [(0, (1, 2)), (1, (1, 2))], [(0, (HUGE - 1, HUGE)), (1, (1, HUGE))], STILL):
            for reserve in (0, 1, 200):
                self.assertEqual(exact_ruin(spread, reserve), (0, 1))

    def test_certain_ruin(self):
        for spread in ([(-1, (1, 2)), (1, (1, 2))], [(-1, (1, 1))], [(-1, (1, 9)), (0, (8, 9))],
                       [(-30, (1, 2)), (30, (1, 2))], [(-3000, (1, 2)), (5, (1, 2))]):
            for reserve in (0, 1, 200):
                self.assertEqual(exact_ruin(spread, reserve), (1, 1))

    def test_against_plain_reckoning(self):
        for seed in range(60):
            spread = some_gain(seed, 1 + seed % 5, 1 + seed % 9 * 3)
            self.assertGreater(mean(spread)[0], 0)
            expected = plain_ruins(spread, 40)
            self.assertEqual([untouched(self, exact_ruin, spread, r) for r in range(41)], [pair(x) for x in expected])

    def test_all_reserves_and_great_losses(self):
        for seed, loss in ((1, 3000), (2, 3000), (3, 500), (4, 250)):
            spread = some_gain(seed, 20, loss)
            expected = plain_ruins(spread, 200)
            for reserve in (0, 1, 100, 199, 200):
                self.assertEqual(exact_ruin(spread, reserve), pair(expected[reserve]))
        spread = [(-3000, (1, 4000)), (1, (3999, 4000))]
        self.assertEqual(exact_ruin(spread, 200), pair(1 - Fraction(999, 3999) * Fraction(4000, 3999) ** 200))

    def test_many_values(self):
        damages = even(range(30))
        three = sum_of(sum_of(damages, [(10 * value, chance) for value, chance in damages]), even([0, 600]))
        losses = [(1 - value, chance) for value, chance in reversed(three)]
        low = 1000
        spread = [(value, pair(read(chance) / low)) for value, chance in losses if value != 1]
        spread.append((1, pair(1 - sum(read(chance) for _, chance in spread))))
        expected = plain_ruins(spread, 200)
        for reserve in (0, 50, 200):
            self.assertEqual(exact_ruin(spread, reserve), pair(expected[reserve]))

    def test_the_mean_after_a_year(self):
        for seed in range(30):
            spread = some_gain(seed, 4, 7)
            ruins = [read(exact_ruin(spread, r)) for r in range(25)]
            self.assertEqual(ruins, sorted(ruins, reverse=True))
            for r in range(24):
                after = sum(read(chance) * (1 if r + value < 0 else ruins[r + value]) for value, chance in spread)
                self.assertEqual(ruins[r], after)

    def test_out_of_range(self):
        for spread in (WALK, STILL, [(-1, (1, 1))], [(-1, (1, 3)), (2, (2, 3))]):
            for reserve in (-1, -200, 201, 202, HUGE, -HUGE):
                refused(self, "OutOfRange", exact_ruin, spread, reserve)
        for spread in ([(-1, (1, 3)), (2, (2, 3))], [(2, (1, 1))], [(0, (1, 2)), (2, (1, 2))], [(1, (1, 2)), (2, (1, 2))],
                       [(-5, (1, 3)), (1, (1, 3)), (5, (1, 3))], [(1000, (1, 1))]):
            for reserve in (0, 7, 200):
                refused(self, "OutOfRange", exact_ruin, spread, reserve)

    def test_values_above_1_with_a_mean_of_at_most_0(self):
        for spread in ([(-2, (1, 2)), (2, (1, 2))], [(-5, (1, 3)), (-1, (1, 3)), (5, (1, 3))]):
            for reserve in (0, 200):
                self.assertEqual(exact_ruin(spread, reserve), (1, 1))


class Least(unittest.TestCase):
    def test_a_walk(self):
        for reserve in (0, 1, 2, 3, 99, 200):
            ruin = Fraction(1, 2 ** (reserve + 1))
            self.assertEqual(untouched(self, least_reserve, WALK, pair(ruin)), reserve)
            if reserve < 200:
                self.assertEqual(least_reserve(WALK, pair(ruin - Fraction(1, HUGE ** 3))), reserve + 1)
            self.assertEqual(least_reserve(WALK, pair(ruin + Fraction(1, HUGE ** 3))), reserve)
        for bound in ((1, 2), (1, 1), (3, 2), (HUGE, 1)):
            self.assertEqual(least_reserve(WALK, bound), 0)

    def test_too_long(self):
        for bound in (pair(Fraction(1, 2 ** 201) - Fraction(1, HUGE ** 9)), (1, 2 ** 202), (1, HUGE ** 9), (0, 1), (-1, 2),
                      (-HUGE, 1)):
            refused(self, "TooLong", least_reserve, WALK, bound)
        # Losses beyond 200 are ruin from all these reserves.
        refused(self, "TooLong", least_reserve, [(-3000, (1, 4000)), (1, (3999, 4000))], (1, 2))

    def test_certain_ruin(self):
        for spread in ([(-1, (1, 2)), (1, (1, 2))], [(-1, (1, 1))], [(-7, (1, 2)), (7, (1, 2))], [(-1, (1, 9)), (0, (8, 9))]):
            for bound in ((1, 1), (HUGE + 1, HUGE), (2, 1)):
                self.assertEqual(untouched(self, least_reserve, spread, bound), 0)
            for bound in ((HUGE - 1, HUGE), (1, 2), (0, 1), (-1, 1)):
                refused(self, "TooLong", least_reserve, spread, bound)

    def test_no_loss(self):
        for spread in (STILL, [(1, (1, 1))], [(0, (1, 2)), (1, (1, 2))]):
            for bound in ((0, 1), (1, HUGE), (1, 1), (5, 1)):
                self.assertEqual(least_reserve(spread, bound), 0)
            for bound in ((-1, HUGE), (-1, 1), (-HUGE, 1)):
                refused(self, "TooLong", least_reserve, spread, bound)

    def test_out_of_range_whatever_the_bound_is(self):
        for spread in ([(-1, (1, 3)), (2, (2, 3))], [(2, (1, 1))], [(0, (1, 2)), (2, (1, 2))]):
            for bound in ((1, 2), (1, 1), (2, 1), (0, 1), (-1, 1), (1, HUGE), (HUGE, 1)):
                refused(self, "OutOfRange", least_reserve, spread, bound)

    def test_against_the_exact_chances(self):
        chooser = random.Random(50)
        for seed in range(40):
            spread = some_gain(seed, 1 + seed % 4, 1 + seed % 5)
            ruins = plain_ruins(spread, 200)
            bounds = [ruins[chooser.randint(0, 9)], Fraction(1, chooser.randint(2, 50)), Fraction(1, 10 ** 4)]
            for bound in bounds:
                expected = [r for r, ruin in enumerate(ruins) if ruin <= bound]
                if expected:
                    self.assertEqual(least_reserve(spread, pair(bound)), expected[0])
                else:
                    refused(self, "TooLong", least_reserve, spread, pair(bound))
