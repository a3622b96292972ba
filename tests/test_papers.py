"""Points 16 to 18: upper and lower papers, and the judge of them."""

import random
import unittest
from fractions import Fraction

from lastcoffer.spans import least_ruin, plan_ruin
from lastcoffer.tables import is_lower, is_upper
from common import HUGE, even, pair, read, refused, untouched
from plain import (FREE, SAFE, SURE, WALK, Plain, changed, found_lower, found_upper, moved_by, plain_value, some_house,
                   some_plan, some_table)

STILL = ([(0, [], SURE)], [FREE])
TINY = Fraction(1, HUGE)


def geometric(size, ratio=Fraction(1, 2)):
    """Return a table with the values ratio ** (r + 1), of which so many stand in the row."""
    row = [pair(ratio ** (reserve + 1)) for reserve in range(size)]
    return ([row], [pair(ratio ** (size + 1))], pair(ratio))


class Upper(unittest.TestCase):
    def test_equality_in_all_states(self):
        for size in (0, 1, 2, 5, 40):
            table = geometric(size)
            self.assertIs(untouched(self, is_upper, WALK, ([[0]], table)), True)
            self.assertIs(is_upper(WALK, ([[0] * 9], table)), True)
            for place in range(size + 1):
                self.assertIs(is_upper(WALK, ([[0]], moved_by(table, 0, place, -TINY))), False)

    def test_a_greater_item_is_too_much_for_its_neighbours(self):
        for size in (1, 2, 5, 20):
            for place in range(size + 1):
                self.assertIs(is_upper(WALK, ([[0]], moved_by(geometric(size), 0, place, TINY))), False)

    def test_values_of_one(self):
        ones = ([[(1, 1)] * 3], [(1, 1)], (1, 2))
        self.assertIs(is_upper(SAFE, ([[0]], ones)), True)
        self.assertIs(is_upper(SAFE, ([[1]], ones)), True)
        self.assertIs(is_upper(WALK, ([[0]], ones)), True)
        self.assertIs(is_upper(WALK, ([[0]], ([[(1, 1)] * 3], [(1, 1)], (1, 3)))), False)

    def test_no_ruin_and_values_of_zero(self):
        for size in (0, 1, 4):
            zeros = ([[(0, 1)] * size], [(0, 1)], (1, 2))
            self.assertIs(is_upper(SAFE, ([[1]], zeros)), True)
            self.assertIs(is_upper(STILL, ([[0]], zeros)), True)
            self.assertIs(is_upper(WALK, ([[0]], zeros)), False)

    def test_values_below_zero(self):
        # Where the reserve always stays the same, the value of a row is the mean, whatever it is.
        for worth, expected in (((0, 1), True), ((5, 1), True), ((1, HUGE), True), ((-1, HUGE), False), ((-3, 1), False)):
            for place in range(3):
                table = ([[(1, 2), (1, 2), (1, 2)]], [(1, 2)], (1, 2))
                self.assertIs(is_upper(STILL, ([[0]], changed(table, 0, place, worth))), expected)
            self.assertIs(is_upper(STILL, ([[0]], ([[]], [worth], (1, 2)))), expected)

    def test_values_above_one(self):
        table = ([[(7, 1), (5, 1)]], [(3, 1)], (1, 2))
        self.assertIs(is_upper(STILL, ([[0]], table)), True)
        self.assertIs(is_upper(SAFE, ([[0]], table)), True)

    def test_the_treaty_that_the_plan_chooses(self):
        # The treaty 1 takes 2 from each year of the walk: then ruin is certain.
        house = (WALK[0], [FREE, (2, [])])
        for size in (0, 3):
            table = geometric(size)
            self.assertIs(is_upper(house, ([[0]], table)), True)
            self.assertIs(is_upper(house, ([[1]], table)), False)
            for place in (0, 1, 2, 3, 5, 6, 7, 30, 200):
                self.assertIs(is_upper(house, ([[0] * place + [1]], table)), False, place)
                self.assertIs(is_upper(house, ([[0] * place + [1, 0]], table)), False, place)
                self.assertIs(is_upper(house, ([[0] * place + [0]], table)), True, place)

    def test_a_treaty_that_is_good_only_in_some_reserves(self):
        # With the treaty 1 the reserve rises from 5 to 8, but from 8 on it falls again.
        house = ([(3, [[(0, (1, 2)), (8, (1, 2))]], SURE)], [(3, [("share", (0, 1))]), (0, [])])
        zeros = ([[]], [(0, 1)], (1, 2))
        self.assertIs(is_upper(house, ([[0]], zeros)), True)
        for plan, expected in (([1], False), ([0, 1], False), ([0] * 5 + [1, 0], True), ([0] * 4 + [1, 0], False),
                               ([0] * 5 + [1] * 50, True), ([0] * 30 + [1], True), ([0] * 30 + [1, 0, 0], True)):
            self.assertIs(is_upper(house, ([plan], zeros)), expected, plan)

    def test_a_fault_in_one_weather(self):
        house = ([(1, [[(0, (2, 3)), (2, (1, 3))]], even([0, 1]))] * 2, [FREE])
        rows, scales, q = geometric(4)
        table = (rows * 2, scales * 2, q)
        self.assertIs(is_upper(house, ([[0], [0]], table)), True)
        for weather in (0, 1):
            for place in range(5):
                self.assertIs(is_upper(house, ([[0], [0]], moved_by(table, weather, place, -TINY))), False)

    def test_against_plain_judging(self):
        chooser = random.Random(30)
        told = []
        for seed in range(120):
            house = some_house(seed, 5)
            plain = Plain(house)
            treaties = [chooser.randrange(len(house[1])) for _ in house[0]]
            paper = found_upper(plain, treaties, Fraction(1 + seed % 4, 2 + seed % 4), seed % 6, seed % 4)
            for plan, table in close_papers(chooser, house, paper or ([[0]] * 4, some_table(chooser, house, 2, (0, 9)))):
                expected = plain.is_upper((plan, table))
                self.assertIs(untouched(self, is_upper, house, (plan, table)), expected, (house, plan, table))
                told.append(expected)
            if paper:
                self.assertIs(is_upper(house, paper), True)
        self.assertGreater(told.count(True), 100)
        self.assertGreater(told.count(False), 100)

    def test_a_paper_bounds_the_chance_of_ruin(self):
        chooser = random.Random(31)
        for seed in range(60):
            house = some_house(seed, 5)
            plain = Plain(house)
            treaties = [chooser.randrange(len(house[1])) for _ in house[0]]
            paper = found_upper(plain, treaties, Fraction(2, 3), 6, 5)
            if paper is not None:
                for reserve in range(8):
                    ruin = plan_ruin(house, paper[0], (reserve, 0), 7)
                    self.assertLessEqual(read(ruin), plain_value(paper[1], reserve, 0))


def close_papers(chooser, house, paper):
    """Return the paper, and papers with other plans, and with an item that is a bit less or more."""
    plan, table = paper
    size = len(table[0][0])
    found = [(plan[:len(house[0])], table), (some_plan(chooser, house, 12), table)]
    for _ in range(6):
        by = chooser.choice([-1, 1]) * chooser.choice([TINY, Fraction(1, 1000), Fraction(1, 5)])
        at = chooser.randrange(len(house[0]))
        found.append((plan[:len(house[0])], moved_by(table, at, chooser.randint(0, size), by)))
    return found


class Lower(unittest.TestCase):
    def test_equality_in_all_states(self):
        # 9/11 * (2/3 * x ** (r + 2) + 1/3 * x ** r) is x ** (r + 1) for x = 1/3.
        for size in (0, 1, 2, 5, 40):
            table = geometric(size, Fraction(1, 3))
            self.assertIs(untouched(self, is_lower, WALK, ((9, 11), table)), True)
            self.assertIs(is_lower(WALK, (pair(Fraction(9, 11) - TINY), table)), False)
            self.assertIs(is_lower(WALK, (pair(Fraction(9, 11) + TINY), table)), True)
            for place in range(size + 1):
                self.assertIs(is_lower(WALK, ((9, 11), moved_by(table, 0, place, TINY))), False)

    def test_a_less_item_is_too_little_for_its_neighbours(self):
        for size in (2, 5, 20):
            for place in range(size + 1):
                table = moved_by(geometric(size, Fraction(1, 3)), 0, place, -TINY)
                self.assertIs(is_lower(WALK, ((9, 11), table)), False)

    def test_the_fraction(self):
        table = ([[(0, 1)] * 3], [(0, 1)], (1, 2))
        for d in ((1, 2), (1, HUGE), (HUGE - 1, HUGE)):
            self.assertIs(is_lower(WALK, (d, table)), True)
        for d in ((0, 1), (1, 1), (-1, 2), (-1, 1), (3, 2), (2, 1), (HUGE + 1, HUGE), (-1, HUGE), (HUGE, 1)):
            self.assertIs(is_lower(WALK, (d, table)), False)
        # Even where both sides would be equal, or the mean is negative, too.
        self.assertIs(is_lower(WALK, ((1, 1), geometric(3))), False)
        self.assertIs(is_lower(SAFE, ((-1, 1), ([[]], [(-1, 1)], (1, 2)))), False)

    def test_values_above_one(self):
        for worth in ((1, 1), (HUGE + 1, HUGE), (2, 1)):
            for place in range(3):
                table = changed(([[(0, 1)] * 2], [(0, 1)], (1, 2)), 0, place, worth)
                self.assertIs(is_lower(STILL, ((1, 2), table)), False)
        certain = ([(0, [[(5, (1, 1))]], SURE)], [FREE])
        row = [pair(Fraction(1, 2) ** (1 + r // 5)) for r in range(12)]
        self.assertIs(is_lower(certain, ((1, 2), ([row], [(0, 1)], (1, 2)))), True)
        self.assertIs(is_lower(certain, ((99, 100), ([[(99, 100)] * 5], [(0, 1)], (1, 2)))), True)
        self.assertIs(is_lower(certain, ((99, 100), ([[(1, 1)] * 5], [(0, 1)], (1, 2)))), False)

    def test_values_below_zero(self):
        # A negative value is at most d times the mean as long as it is further from 0.
        self.assertIs(is_lower(SAFE, ((1, 2), ([[]], [(-3, 1)], (1, 2)))), True)
        self.assertIs(is_lower(STILL, ((1, 2), ([[(-3, 1)]], [(-3, 1)], (1, 2)))), True)
        self.assertIs(is_lower(SAFE, ((1, 2), ([[(-1, 1)]], [(-300, 1)], (1, 2)))), False)

    def test_each_treaty_counts(self):
        better, worse = (0, [("share", (1, 2))]), (2, [])
        table = geometric(4, Fraction(1, 3))
        for treaties, expected in (([FREE], True), ([FREE, worse], True), ([worse, worse, FREE], True),
                                   ([FREE, better], False), ([better, FREE], False), ([worse, FREE, worse, better], False)):
            self.assertIs(is_lower((WALK[0], treaties), ((9, 11), table)), expected)

    def test_a_fault_in_one_weather(self):
        house = ([(1, [[(0, (2, 3)), (2, (1, 3))]], even([0, 1]))] * 2, [FREE])
        rows, scales, q = geometric(4, Fraction(1, 3))
        table = (rows * 2, scales * 2, q)
        self.assertIs(is_lower(house, ((9, 11), table)), True)
        for weather in (0, 1):
            for place in range(5):
                self.assertIs(is_lower(house, ((9, 11), moved_by(table, weather, place, TINY))), False)

    def test_against_plain_judging(self):
        chooser = random.Random(32)
        told = []
        for seed in range(120):
            house = some_house(seed, 5)
            plain = Plain(house)
            d, table = found_lower(plain, Fraction(9, 10), Fraction(1, 2), seed % 6, seed % 4)
            papers = [(d, near) for _, near in close_papers(chooser, house, ([[0]], table))]
            papers += [(d, some_table(chooser, house, seed % 6, (-9, 1))), (pair(chooser.choice([1, 0, Fraction(1, 3)])), table)]
            for paper in papers:
                expected = plain.is_lower(paper)
                self.assertIs(untouched(self, is_lower, house, paper), expected, (house, paper))
                told.append(expected)
            self.assertIs(is_lower(house, (d, table)), True)
        self.assertGreater(told.count(True), 100)
        self.assertGreater(told.count(False), 100)

    def test_a_paper_bounds_the_least_chance(self):
        for seed in range(30):
            house = some_house(seed, 5)
            plain = Plain(house)
            d, table = found_lower(plain, Fraction(9, 10), Fraction(1, 2), 6, 6)
            for reserve in range(8):
                least = read(least_ruin(house, (reserve, 0), 6))
                self.assertGreaterEqual(least, plain_value(table, reserve, 0) - read(d) ** 6)


class Found(unittest.TestCase):
    """Tables that are close to papers: both judges against plain judging."""

    def both(self, house, plan, d, table, told):
        plain = Plain(house)
        for judge, paper, expected in ((is_upper, (plan, table), plain.is_upper((plan, table))),
                                       (is_lower, (d, table), plain.is_lower((d, table)))):
            self.assertIs(untouched(self, judge, house, paper), expected, (house, paper))
            told[judge.__name__, expected] = told.get((judge.__name__, expected), 0) + 1

    def test_drawn_tables_ones_and_zeros(self):
        chooser = random.Random(33)
        told = {}
        for seed in range(90):
            house = some_house(seed, 5)
            many = len(house[0])
            size = seed % 5
            q = pair(Fraction(1 + seed % 6, 2 + seed % 6))
            d = pair(Fraction(chooser.randint(-1, 11), 10))
            scale = chooser.choice([(1, 1), (1, 2), (0, 1), q])
            for row in ([(1, 1)] * size, [(0, 1)] * size):
                self.both(house, some_plan(chooser, house), d, ([list(row) for _ in range(many)], [scale] * many, q), told)
            self.both(house, some_plan(chooser, house), d, some_table(chooser, house, size, (0, 7)), told)
            self.both(house, some_plan(chooser, house), d, some_table(chooser, house, size, (-7, 1)), told)
        self.assertEqual(len(told), 4)
        self.assertGreater(min(told.values()), 20, told)

    def test_found_papers_with_one_thing_changed(self):
        chooser = random.Random(34)
        told = {}
        for seed in range(60):
            house = some_house(seed, 4)
            plain = Plain(house)
            treaties = [chooser.randrange(len(house[1])) for _ in house[0]]
            d = Fraction(chooser.randint(5, 9), 10)
            found = [found_lower(plain, d, Fraction(1, 2), seed % 5, seed % 6)[1]]
            paper = found_upper(plain, treaties, Fraction(4, 5), seed % 5, seed % 6)
            if paper is not None:
                found.append(paper[1])
            for table in found:
                rows, scales, q = table
                near = [(d, table)]
                for other in (TINY, -TINY, Fraction(1, 9), Fraction(-1, 9)):
                    near.append((d + other, table))
                    near.append((d, (rows, scales, pair(read(q) + other))))
                    near.append((d, moved_by(table, chooser.randrange(len(rows)), chooser.randint(0, len(rows[0])), other)))
                    near.append((d, moved_by(table, chooser.randrange(len(rows)), len(rows[0]), other)))
                for discount, close in near:
                    self.both(house, [[t] for t in treaties], pair(discount), close, told)
        self.assertEqual(len(told), 4)
        self.assertGreater(min(told.values()), 50, told)


class Long(unittest.TestCase):
    def judges(self, house, size, length=1):
        """Judge papers whose values are all 0."""
        zeros = ([[(0, 1)] * size for _ in house[0]], [(0, 1)] * len(house[0]), (1, 2))
        return (is_upper(house, ([[0] * length for _ in house[0]], zeros)), is_lower(house, ((1, 2), zeros)))

    def refuses(self, act, house, *paper):
        refused(self, "TooLong", act, house, paper)

    def test_no_loss(self):
        self.assertEqual(self.judges(SAFE, 5000), (True, True))
        for size in (5001, 5002, 9000):
            zeros = ([[(0, 1)] * size], [(0, 1)], (1, 2))
            self.refuses(is_upper, SAFE, [[0]], zeros)
            self.refuses(is_lower, SAFE, (1, 2), zeros)

    def test_rows_and_the_greatest_loss(self):
        house = ([(3, [[(0, (1, 2)), (10, (1, 2))]], SURE)], [FREE])
        self.assertEqual(self.judges(house, 4993), (False, True))
        zeros = ([[(0, 1)] * 4994], [(0, 1)], (1, 2))
        self.refuses(is_upper, house, [[0]], zeros)
        self.refuses(is_lower, house, (1, 2), zeros)

    def test_the_lists_of_a_plan(self):
        house = ([(3, [], SURE), (0, [[(0, (1, 2)), (10, (1, 2))]], SURE)], [FREE])
        for plan in ([[0] * 4990, [0]], [[0], [0] * 4990], [[0] * 4990, [0] * 4990]):
            for size in (0, 7, 4990):
                ones = ([[(1, 1)] * size] * 2, [(1, 1)] * 2, (99, 100))
                self.assertIs(is_upper(house, (plan, ones)), False)
        for plan in ([[0] * 4991, [0]], [[0], [0] * 4991], [[0], [0] * 6000]):
            for size in (0, 7, 4990):
                ones = ([[(1, 1)] * size] * 2, [(1, 1)] * 2, (99, 100))
                self.refuses(is_upper, house, plan, ones)

    def test_a_long_plan_that_is_an_upper_one(self):
        table = geometric(3)
        self.assertIs(is_upper(WALK, ([[0] * 4999], table)), True)
        self.refuses(is_upper, WALK, [[0] * 5000], table)
        house = (WALK[0], [FREE, (1, [])])
        self.assertIs(is_upper(house, ([[0] * 4998], table)), True)
        self.assertIs(is_upper(house, ([[0] * 4997 + [1]], table)), False)
        self.refuses(is_upper, house, [[0] * 4999], table)

    def test_a_loss_of_a_treaty_that_the_plan_does_not_choose(self):
        house = ([(0, [], SURE), (7, [], SURE)], [FREE, (1000, [])])
        self.assertEqual(self.judges(house, 4000), (True, True))
        zeros = ([[(0, 1)] * 4001] * 2, [(0, 1)] * 2, (1, 2))
        self.refuses(is_upper, house, [[0], [0]], zeros)
        self.refuses(is_lower, house, (1, 2), zeros)

    def test_the_greatest_loss_of_all(self):
        house = ([(0, [even([0, 1000])] * 3, SURE)], [(1000, []), (0, [])])
        self.assertEqual(self.judges(house, 1000), (False, True))
        zeros = ([[(0, 1)] * 1001], [(0, 1)], (1, 2))
        self.refuses(is_upper, house, [[1]], zeros)
        self.refuses(is_lower, house, (1, 2), zeros)

    def test_refused_whatever_the_paper_is(self):
        for worth in ((-1, 1), (3, 1)):
            for table in (([[worth] * 5001], [(0, 1)], (1, 2)), ([[(0, 1)] * 5001], [worth], (1, 2))):
                self.refuses(is_upper, SAFE, [[0]], table)
                for d in ((1, 2), (0, 1), (1, 1), (-5, 1), (9, 2)):
                    self.refuses(is_lower, SAFE, d, table)

    def test_many_rows_with_a_fault_in_one_place(self):
        house = ([(3, [even([0, 1, 2, 3, 5, 9])], SURE)], [FREE])
        zeros = ([[(0, 1)] * 4900], [(0, 1)], (1, 2))
        self.assertIs(is_lower(house, ((1, 2), zeros)), True)
        for place in (6, 2500, 4899, 4900):
            self.assertIs(is_lower(house, ((1, 2), moved_by(zeros, 0, place, TINY))), False)
            self.assertIs(is_lower(house, ((1, 2), moved_by(zeros, 0, place, -TINY))), False)

    def test_great_losses_with_a_long_tail(self):
        house = ([(0, [even(range(0, 1000, 40))] * 2, SURE)], [FREE, (100, [("share", (1, 2))])])
        low = ([[(1, 1000)] * 3], [(0, 1)], (999, 1000))
        self.assertIs(is_lower(house, ((1, 2), low)), True)
        self.assertIs(is_lower(house, ((1, 2), ([[(1, 2)] * 3], [(0, 1)], (999, 1000)))), False)
        gaining = ([(700, [even(range(0, 1000, 40))], SURE)], [FREE])
        self.assertIs(is_upper(gaining, ([[0]], ([[]], [(1, 1)], (999, 1000)))), True)
        self.assertIs(is_upper(gaining, ([[0]], ([[]], [(1, 2)], (999, 1000)))), False)
