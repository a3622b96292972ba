"""Points 3 and 4: spreads."""

import random
import unittest
from fractions import Fraction

from lastcoffer.chances import chance_of, check_spread, gathered, mean, mixed, shifted, sum_of
from common import HUGE, even, is_new, pair, plainly_gathered, read, refused, some_spread, untouched

COIN = [(-1, (1, 3)), (2, (2, 3))]
SURE = [(0, (1, 1))]


def some_spreads():
    return [some_spread(seed, 1 + seed % 12, -40, 40) for seed in range(36)]


def with_chance(spread, k, chance):
    return spread[:k] + [(spread[k][0], chance)] + spread[k + 1:]


class Checked(unittest.TestCase):
    def test_spreads_of_all_lengths_and_signs(self):
        for spread in some_spreads():
            self.assertIsNone(untouched(self, check_spread, spread))
        for value in (0, 1, -1, HUGE, -HUGE):
            self.assertIsNone(check_spread([(value, (1, 1))]))
        self.assertIsNone(check_spread([(-HUGE, (1, HUGE)), (HUGE, (HUGE - 1, HUGE))]))

    def test_the_empty_list(self):
        refused(self, "BadSpread", check_spread, [])

    def test_a_wrong_chance_at_each_place(self):
        for spread in some_spreads():
            for k in range(len(spread)):
                top, low = spread[k][1]
                for chance in ((0, 1), (0, low), (-top, low), (top, -low), (-top, -low), (top, 0), (0, 0),
                               (2 * top, 2 * low), (top * HUGE, low * HUGE)):
                    refused(self, "BadSpread", check_spread, with_chance(spread, k, chance))

    def test_a_sum_that_is_not_one(self):
        for spread in some_spreads():
            for k in range(len(spread)):
                for factor in (Fraction(1, 2), Fraction(2), Fraction(HUGE - 1, HUGE), Fraction(HUGE, HUGE - 1)):
                    chance = pair(read(spread[k][1]) * factor)
                    refused(self, "BadSpread", check_spread, with_chance(spread, k, chance))
                if len(spread) > 1:
                    refused(self, "BadSpread", check_spread, spread[:k] + spread[k + 1:])

    def test_a_chance_of_zero_or_below_with_the_sum_one(self):
        refused(self, "BadSpread", check_spread, [(0, (1, 1)), (1, (0, 1))])
        refused(self, "BadSpread", check_spread, [(0, (0, 1)), (1, (1, 1))])
        refused(self, "BadSpread", check_spread, [(0, (3, 2)), (1, (-1, 2))])
        refused(self, "BadSpread", check_spread, [(0, (2, 4)), (1, (1, 2))])
        refused(self, "BadSpread", check_spread, [(0, (1, 2)), (1, (-1, -2))])

    def test_values_out_of_order_or_twice_at_each_place(self):
        for spread in some_spreads():
            for k in range(1, len(spread)):
                turned = list(spread)
                turned[k - 1], turned[k] = turned[k], turned[k - 1]
                refused(self, "BadSpread", check_spread, turned)
                twice = list(spread)
                twice[k] = (spread[k - 1][0], spread[k][1])
                refused(self, "BadSpread", check_spread, twice)


class Gathered(unittest.TestCase):
    def test_by_hand(self):
        items = [(3, (1, 6)), (-2, (1, 2)), (3, (1, 3))]
        self.assertEqual(gathered(items), [(-2, (1, 2)), (3, (1, 2))])

    def test_the_empty_list(self):
        self.assertEqual(gathered([]), [])
        is_new(self, gathered, [])

    def test_chances_that_cancel_or_are_zero(self):
        self.assertEqual(gathered([(1, (1, 2)), (1, (-1, 2))]), [])
        self.assertEqual(gathered([(1, (0, 1))]), [])
        self.assertEqual(gathered([(1, (1, 2)), (0, (-3, 2)), (1, (-1, 2)), (1, (1, 5))]), [(0, (-3, 2)), (1, (1, 5))])
        self.assertEqual(gathered([(1, (1, 2)), (1, (-1, 2)), (1, (1, 2))]), [(1, (1, 2))])
        self.assertEqual(gathered([(HUGE, (-8, HUGE))]), [(HUGE, (-8, HUGE))])

    def test_against_plain_reckoning(self):
        chooser = random.Random(4)
        for _ in range(200):
            plain = [(chooser.randint(-5, 5), Fraction(chooser.randint(-4, 4), chooser.randint(1, 6)))
                     for _ in range(chooser.randint(0, 20))]
            items = [(value, pair(chance)) for value, chance in plain]
            self.assertEqual(untouched(self, gathered, items), plainly_gathered(plain))

    def test_a_gathered_spread_is_the_same(self):
        for spread in some_spreads():
            self.assertEqual(gathered(spread), spread)
            self.assertEqual(gathered(spread[::-1]), spread)
            is_new(self, gathered, spread)


class Asked(unittest.TestCase):
    def test_mean(self):
        self.assertEqual(mean(COIN), (1, 1))
        self.assertEqual(mean(SURE), (0, 1))
        self.assertEqual(mean(even(range(1, 7))), (7, 2))
        self.assertEqual(mean([(-3, (1, 2)), (-2, (1, 2))]), (-5, 2))
        self.assertEqual(mean([(HUGE, (1, 1))]), (HUGE, 1))

    def test_mean_against_plain_reckoning(self):
        for spread in some_spreads():
            expected = sum(value * read(chance) for value, chance in spread)
            self.assertEqual(untouched(self, mean, spread), pair(expected))

    def test_chance_of(self):
        for spread in some_spreads():
            known = dict(spread)
            for value in range(-45, 46):
                self.assertEqual(untouched(self, chance_of, spread, value), known.get(value, (0, 1)))
        self.assertEqual(chance_of([(HUGE, (1, 1))], HUGE), (1, 1))
        self.assertEqual(chance_of([(HUGE, (1, 1))], -HUGE), (0, 1))

    def test_shifted(self):
        self.assertEqual(shifted(COIN, 3), [(2, (1, 3)), (5, (2, 3))])
        self.assertEqual(shifted(COIN, -3), [(-4, (1, 3)), (-1, (2, 3))])
        for spread in some_spreads():
            for places in (0, 1, -1, 40, -HUGE, HUGE):
                expected = [(value + places, chance) for value, chance in spread]
                self.assertEqual(shifted(spread, places), expected)
                is_new(self, shifted, spread, places)


class Summed(unittest.TestCase):
    def test_two_dice(self):
        die = even(range(1, 7))
        expected = [(value, pair(Fraction(6 - abs(value - 7), 36))) for value in range(2, 13)]
        self.assertEqual(sum_of(die, die), expected)

    def test_with_a_sure_value(self):
        self.assertEqual(sum_of(COIN, SURE), COIN)
        self.assertEqual(sum_of(SURE, COIN), COIN)
        self.assertEqual(sum_of(COIN, [(5, (1, 1))]), shifted(COIN, 5))
        is_new(self, sum_of, COIN, SURE)

    def test_against_plain_reckoning(self):
        spreads = some_spreads()
        for first, second in zip(spreads, spreads[7:] + spreads[:7]):
            plain = [(a + b, read(p) * read(q)) for a, p in first for b, q in second]
            answer = untouched(self, sum_of, first, second)
            self.assertEqual(answer, plainly_gathered(plain))
            self.assertIsNone(check_spread(answer))
            is_new(self, sum_of, first, second)


class Mixed(unittest.TestCase):
    def test_by_hand(self):
        answer = mixed([COIN, SURE, [(2, (1, 1))]], [(1, 2), (1, 4), (1, 4)])
        self.assertEqual(answer, [(-1, (1, 6)), (0, (1, 4)), (2, (7, 12))])

    def test_one_spread(self):
        self.assertEqual(mixed([COIN], [(1, 1)]), COIN)
        is_new(self, mixed, [COIN], [(1, 1)])

    def test_the_same_spread_twice(self):
        self.assertEqual(mixed([COIN, COIN], [(1, 3), (2, 3)]), COIN)

    def test_a_chance_of_zero_leaves_nothing_behind(self):
        self.assertEqual(mixed([COIN, SURE], [(1, 1), (0, 1)]), COIN)
        self.assertEqual(mixed([COIN, SURE], [(0, 1), (1, 1)]), SURE)

    def test_against_plain_reckoning(self):
        spreads = some_spreads()
        for many in range(1, 6):
            for start in range(0, 30, 3):
                chosen = spreads[start:start + many]
                chances = [chance for _, chance in some_spread(start, many, 0, 9)]
                plain = [(value, read(share) * read(chance)) for spread, share in zip(chosen, chances)
                         for value, chance in spread]
                answer = untouched(self, mixed, chosen, chances)
                self.assertEqual(answer, plainly_gathered(plain))
                self.assertIsNone(check_spread(answer))
                is_new(self, mixed, chosen, chances)

    def test_a_wrong_number_of_chances(self):
        refused(self, "OutOfRange", mixed, [COIN, SURE], [(1, 1)])
        refused(self, "OutOfRange", mixed, [COIN], [(1, 2), (1, 2)])
        refused(self, "OutOfRange", mixed, [COIN], [(1, 1), (0, 1)])
        refused(self, "OutOfRange", mixed, [COIN], [])
        refused(self, "OutOfRange", mixed, [], [(1, 1)])

    def test_nothing_has_not_the_sum_one(self):
        refused(self, "OutOfRange", mixed, [], [])

    def test_a_chance_below_zero(self):
        refused(self, "OutOfRange", mixed, [COIN, SURE], [(3, 2), (-1, 2)])
        refused(self, "OutOfRange", mixed, [COIN, SURE], [(-1, HUGE), (HUGE + 1, HUGE)])
        refused(self, "OutOfRange", mixed, [COIN, COIN, COIN], [(1, 1), (1, 2), (-1, 2)])

    def test_a_sum_that_is_not_one(self):
        refused(self, "OutOfRange", mixed, [COIN], [(0, 1)])
        refused(self, "OutOfRange", mixed, [COIN], [(2, 1)])
        refused(self, "OutOfRange", mixed, [COIN, SURE], [(1, 2), (1, 3)])
        refused(self, "OutOfRange", mixed, [COIN, SURE], [(1, 2), (HUGE + 1, 2 * HUGE)])
