"""Points 14 and 15: tables, their values, and the mean after a state."""

import copy
import random
import unittest
from fractions import Fraction

from lastcoffer.tables import check_table, mean_after, value_at
from common import HUGE, even, pair, read, refused, some_spread, untouched
from plain import FREE, SAFE, SURE, WALK, Plain, plain_value, some_house, some_table

WRONG = [(2, 4), (0, 2), (1, 0), (0, 0), (1, -2), (-1, -1), (0, -1), (3, 3), (5 * HUGE, 7 * HUGE)]


def house_of(weathers):
    return ([(3, [], SURE)] * weathers, [FREE])


def table_of(weathers, size, q=(1, 2)):
    return ([[(k - 1, 1) for k in range(size)] for _ in range(weathers)], [(1, 3)] * weathers, q)


class Checked(unittest.TestCase):
    def test_tables(self):
        for weathers in range(1, 5):
            for size in (0, 1, 2, 30):
                self.assertIsNone(untouched(self, check_table, house_of(weathers), table_of(weathers, size)))
        self.assertIsNone(check_table(house_of(1), table_of(1, 12000)))
        chooser = random.Random(20)
        for seed in range(30):
            house = some_house(seed)
            self.assertIsNone(untouched(self, check_table, house, some_table(chooser, house, seed % 5, (-900, 900))))

    def test_values_of_all_sizes(self):
        for item in ((0, 1), (-1, 1), (1, 1), (-HUGE, 2), (HUGE, 1), (1, HUGE)):
            self.assertIsNone(check_table(house_of(1), ([[item]], [item], (1, 2))))

    def test_q(self):
        for q in ((1, 2), (1, HUGE), (HUGE - 1, HUGE)):
            self.assertIsNone(check_table(house_of(2), table_of(2, 3, q)))
            self.assertIsNone(check_table(house_of(1), table_of(1, 0, q)))
        for q in WRONG + [(0, 1), (1, 1), (-1, 2), (3, 2), (2, 1), (HUGE + 1, HUGE), (-1, HUGE)]:
            refused(self, "OutOfRange", check_table, house_of(2), table_of(2, 3, q))
            refused(self, "OutOfRange", check_table, house_of(1), table_of(1, 0, q))

    def test_too_few_or_too_many_rows_or_scales(self):
        for weathers in range(1, 5):
            rows, scales, q = table_of(weathers, 2)
            for many in (0, 1, 2, 3, 4, 5):
                if many != weathers:
                    refused(self, "OutOfRange", check_table, house_of(weathers), (rows[:1] * many, scales, q))
                    refused(self, "OutOfRange", check_table, house_of(weathers), ([[]] * many, scales, q))
                    refused(self, "OutOfRange", check_table, house_of(weathers), (rows, scales[:1] * many, q))
                    refused(self, "OutOfRange", check_table, house_of(weathers), table_of(many, 2))

    def test_rows_of_different_lengths(self):
        for weathers in range(2, 5):
            for place in range(weathers):
                for size in (0, 1, 3, 4):
                    rows, scales, q = table_of(weathers, 2)
                    rows[place] = [(1, 2)] * size
                    refused(self, "OutOfRange", check_table, house_of(weathers), (rows, scales, q))

    def test_items_that_are_no_fractions_at_each_place(self):
        for weathers in range(1, 5):
            for place in range(weathers):
                for wrong in WRONG:
                    rows, scales, q = table_of(weathers, 3)
                    scales[place] = wrong
                    refused(self, "OutOfRange", check_table, house_of(weathers), (rows, scales, q))
                    for at in range(3):
                        rows, scales, q = table_of(weathers, 3)
                        rows[place][at] = wrong
                        refused(self, "OutOfRange", check_table, house_of(weathers), (rows, scales, q))


class Value(unittest.TestCase):
    def test_by_hand(self):
        table = ([[(5, 2), (0, 1)], [(-1, 3), (7, 9)]], [(3, 4), (-8, 1)], (2, 3))
        self.assertEqual([value_at(table, r, 0) for r in range(-2, 5)],
                         [(1, 1), (1, 1), (5, 2), (0, 1), (3, 4), (1, 2), (1, 3)])
        self.assertEqual([value_at(table, r, 1) for r in range(-2, 5)],
                         [(1, 1), (1, 1), (-1, 3), (7, 9), (-8, 1), (-16, 3), (-32, 9)])

    def test_no_rows(self):
        table = ([[], []], [(1, 2), (0, 1)], (1, 2))
        self.assertEqual([value_at(table, r, 0) for r in (-1, 0, 1, 5)], [(1, 1), (1, 2), (1, 4), (1, 64)])
        self.assertEqual([value_at(table, r, 1) for r in (-1, 0, 1, 10000)], [(1, 1), (0, 1), (0, 1), (0, 1)])

    def test_against_plain_reckoning(self):
        chooser = random.Random(21)
        for seed in range(40):
            house = some_house(seed)
            table = some_table(chooser, house, seed % 6)
            for weather in range(len(house[0])):
                for reserve in [*range(-3, 12), 100, 777]:
                    answer = untouched(self, value_at, table, reserve, weather)
                    self.assertEqual(answer, pair(plain_value(table, reserve, weather)))

    def test_the_reserve_10000(self):
        for q in ((1, 2), (9, 10), (999, 1000)):
            for size in (0, 3, 9999, 10000):
                table = ([[(1, 7)] * size], [(10, 9)], q)
                self.assertEqual(value_at(table, 10000, 0), pair(Fraction(10, 9) * read(q) ** (10000 - size)))
        self.assertEqual(value_at(([[(k, 1) for k in range(10003)]], [(1, 2)], (1, 2)), 10000, 0), (10000, 1))

    def test_a_long_q(self):
        q = (HUGE - 1, HUGE)
        scale = (HUGE, HUGE - 1)
        self.assertEqual(value_at(([[]], [scale], q), 10000, 0), ((HUGE - 1) ** 9999, HUGE ** 9999))

    def test_out_of_range(self):
        for size in (0, 2, 10001, 10002):
            for reserve in (10001, 10002, HUGE):
                refused(self, "OutOfRange", value_at, table_of(2, size), reserve, 0)
                refused(self, "OutOfRange", value_at, table_of(2, size), reserve, 1)

    def test_far_below_0(self):
        for reserve in (-1, -10001, -HUGE):
            self.assertEqual(value_at(table_of(2, 3), reserve, 1), (1, 1))


class Mean(unittest.TestCase):
    def test_by_hand(self):
        table = ([[(1, 5)]], [(3, 4)], (1, 3))
        # The reserve rises by 1 with the chance 2/3, and falls by 1 with the chance 1/3.
        self.assertEqual(mean_after(WALK, table, (0, 0), 0), (5, 6))
        self.assertEqual(mean_after(WALK, table, (1, 0), 0), (7, 30))
        self.assertEqual(mean_after(WALK, table, (2, 0), 0), (11, 36))
        self.assertEqual(mean_after(WALK, table, (3, 0), 0), (11, 108))

    def test_no_lines_and_weathers(self):
        house = ([(1, [], [(0, (1, 4)), (1, (3, 4))]), (0, [], SURE)], [FREE, (2, [])])
        table = ([[(1, 2)], [(1, 3)]], [(1, 5), (1, 7)], (1, 2))
        self.assertEqual(mean_after(house, table, (0, 0), 0), pair(Fraction(1, 20) + Fraction(3, 28)))
        self.assertEqual(mean_after(house, table, (0, 0), 1), (1, 1))
        self.assertEqual(mean_after(house, table, (1, 0), 1), pair(Fraction(1, 8) + Fraction(1, 4)))
        self.assertEqual(mean_after(house, table, (0, 1), 0), (1, 2))
        self.assertEqual(mean_after(house, table, (3, 1), 1), (1, 5))

    def test_the_reserve_may_rise_above_10000(self):
        table = ([[]], [(1, 1)], (1, 2))
        self.assertEqual(mean_after(SAFE, table, (10000, 0), 0), (1, 2 ** 10007))
        table = ([[(k, 1) for k in range(10020)]], [(1, 1)], (1, 2))
        self.assertEqual(mean_after(SAFE, table, (10000, 0), 0), (10007, 1))

    def test_against_all_cases(self):
        chooser = random.Random(22)
        for seed in range(48):
            house = some_house(seed)
            plain = Plain(house)
            for size in (0, 1, 2, 5, 15):
                table = some_table(chooser, house, size)
                for weather in plain.weathers:
                    for reserve in [*range(0, 10), 17, 40]:
                        for treaty in plain.treaties:
                            state = (reserve, weather)
                            answer = untouched(self, mean_after, house, table, state, treaty)
                            self.assertEqual(answer, pair(plain.mean(table, state, treaty)), (seed, state, treaty))

    def test_the_reserve_10000(self):
        chooser = random.Random(23)
        for seed in range(9):
            house = some_house(seed)
            plain = Plain(house)
            for size in (0, 4):
                table = some_table(chooser, house, size)
                for reserve in (999, 10000):
                    state = (reserve, seed % len(house[0]))
                    self.assertEqual(mean_after(house, table, state, 0), pair(plain.mean(table, state, 0)))

    def test_long_rows(self):
        house = ([(40, [some_spread(5, 30, 0, 90)], SURE)], [FREE])
        plain = Plain(house)
        table = ([[pair(Fraction(k, k + 1)) for k in range(9990)]], [(2, 1)], (1, 2))
        for reserve in (0, 30, 5000, 9940, 9951, 9990, 10000):
            self.assertEqual(mean_after(house, table, (reserve, 0), 0), pair(plain.mean(table, (reserve, 0), 0)))

    def test_many_values(self):
        lines = [some_spread(seed, 30, 0, 1000) for seed in range(3)]
        house = ([(900, lines, SURE)], [FREE])
        table = ([[(1, 2), (1, 3)]], [(1, 4)], (1, 2))
        plain = Plain(house)
        for reserve in (0, 700, 1400):
            self.assertEqual(mean_after(house, table, (reserve, 0), 0), pair(plain.mean(table, (reserve, 0), 0)))

    def test_out_of_range(self):
        for reserve in (10001, 10002, HUGE):
            for size in (0, 3, 10010):
                refused(self, "OutOfRange", mean_after, WALK, table_of(1, size), (reserve, 0), 0)

    def test_the_table_stays(self):
        table = table_of(1, 3)
        before = copy.deepcopy(table)
        house = ([(2, [even([0, 5])], SURE)], [FREE])
        for reserve in (0, 3, 9):
            mean_after(house, table, (reserve, 0), 0)
            value_at(table, reserve, 0)
        self.assertEqual(table, before)
