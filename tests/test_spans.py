"""Points 9, 10 and 13: the least chance of ruin within a number of years, and best treaties."""

import random
import unittest
from fractions import Fraction

from lastcoffer.errors import TooLong
from lastcoffer.spans import best_treaty, least_ruin, outlook, plan_ruin
from common import HUGE, even, pair, read, refused, some_spread, untouched
from plain import FREE, SAFE, SURE, WALK, Plain, large_house, plain_chosen, some_house, some_plan

HALVES = ([(1, [even([0, 2])], SURE)], [FREE])
# A year costs 1 for sure (treaty 0), or 3 with the chance 1/4 (treaty 1).
CHOICE = ([(0, [[(0, (3, 4)), (3, (1, 4))]], SURE)], [(1, [("share", (0, 1))]), FREE])


class Least(unittest.TestCase):
    def test_no_years(self):
        for house in (HALVES, WALK, CHOICE, SAFE):
            for reserve in (0, 1, 100000):
                self.assertEqual(untouched(self, least_ruin, house, (reserve, 0), 0), (0, 1))

    def test_a_fair_walk(self):
        self.assertEqual([least_ruin(HALVES, (0, 0), n) for n in range(6)],
                         [(0, 1), (1, 2), (1, 2), (5, 8), (5, 8), (11, 16)])
        self.assertEqual([least_ruin(HALVES, (1, 0), n) for n in range(5)], [(0, 1), (0, 1), (1, 4), (1, 4), (3, 8)])
        self.assertEqual(least_ruin(HALVES, (59, 0), 60), (1, 2 ** 60))
        self.assertEqual(least_ruin(HALVES, (60, 0), 60), (0, 1))

    def test_the_better_treaty(self):
        # With the reserve 0 the sure cost is ruin; with 1 it puts ruin off by a year.
        self.assertEqual(least_ruin(CHOICE, (0, 0), 1), (1, 4))
        self.assertEqual(least_ruin(CHOICE, (1, 0), 1), (0, 1))
        self.assertEqual(least_ruin(CHOICE, (1, 0), 2), (1, 4))
        self.assertEqual(least_ruin(CHOICE, (2, 0), 3), (1, 4))
        self.assertEqual(best_treaty(CHOICE, (0, 0), 1), 1)
        self.assertEqual(best_treaty(CHOICE, (1, 0), 1), 0)

    def test_a_reserve_of_0_is_no_ruin(self):
        house = ([(0, [[(5, (1, 1))]], SURE)], [FREE])
        self.assertEqual([least_ruin(house, (5, 0), n) for n in range(4)], [(0, 1), (0, 1), (1, 1), (1, 1)])
        self.assertEqual([least_ruin(house, (4, 0), n) for n in range(3)], [(0, 1), (1, 1), (1, 1)])

    def test_no_lines(self):
        self.assertEqual(least_ruin(SAFE, (0, 0), 60), (0, 1))
        dear = ([(4, [], SURE)], [(5, [])])
        self.assertEqual([least_ruin(dear, (2, 0), n) for n in range(6)], [(0, 1)] * 3 + [(1, 1)] * 3)

    def test_weathers(self):
        # Ruin comes in the weather 1 only, which follows the weather 0 with the chance 1/3.
        house = ([(0, [], [(0, (2, 3)), (1, (1, 3))]), (0, [[(1, (1, 1))]], SURE)], [FREE])
        self.assertEqual([least_ruin(house, (0, 0), n) for n in range(5)], [(0, 1), (0, 1), (1, 3), (5, 9), (19, 27)])
        self.assertEqual([least_ruin(house, (0, 1), n) for n in range(3)], [(0, 1), (1, 1), (1, 1)])
        self.assertEqual([least_ruin(house, (1, 1), n) for n in range(5)], [(0, 1)] * 3 + [(1, 3), (5, 9)])

    def test_against_all_cases(self):
        for seed in range(48):
            house = some_house(seed)
            plain = Plain(house)
            for reserve in (0, 1, 2, 4, 7, 11):
                for weather in plain.weathers:
                    state = (reserve, weather)
                    for years in range(5):
                        answer = untouched(self, least_ruin, house, state, years)
                        self.assertEqual(answer, pair(plain.least(state, years)), (seed, state, years))

    def test_many_years(self):
        for seed in (0, 3, 6, 9, 1, 4, 18, 21):
            house = some_house(seed, 3)
            plain = Plain(house)
            for years in (20, 59, 60):
                state = (seed % 5, seed % len(house[0]))
                self.assertLess(plain.counted(lambda now: plain.treaties, state, years), 20000)
                self.assertEqual(least_ruin(house, state, years), pair(plain.least(state, years)), (seed, years))
                risks = [plain.risk(state, treaty, years) for treaty in plain.treaties]
                self.assertEqual(best_treaty(house, state, years), risks.index(min(risks)))

    def test_the_years_and_the_reserve(self):
        for seed in range(0, 36, 5):
            house = some_house(seed)
            for weather in range(len(house[0])):
                table = [[read(least_ruin(house, (reserve, weather), years)) for years in range(9)]
                         for reserve in range(12)]
                for row in table:
                    self.assertEqual(row, sorted(row))
                for column in zip(*table):
                    self.assertEqual(list(column), sorted(column, reverse=True))


class Best(unittest.TestCase):
    def test_the_least_index_of_equal_ones(self):
        house = ([(1, [even([0, 2])], SURE)], [FREE, FREE, (0, [("limit", 2)])])
        for reserve in (0, 1, 3):
            self.assertEqual(best_treaty(house, (reserve, 0), 5), 0)
        house = ([(1, [even([0, 2])], SURE)], [(1, []), FREE, (0, [("limit", 2)]), FREE])
        self.assertEqual(best_treaty(house, (0, 0), 5), 1)
        self.assertEqual(best_treaty(house, (0, 0), 1), 0)
        self.assertEqual(best_treaty(house, (1, 0), 1), 1)
        self.assertEqual(best_treaty(house, (9, 0), 1), 0)

    def test_no_risk_at_all(self):
        for years in (1, 60):
            self.assertEqual(best_treaty(SAFE, (0, 0), years), 0)
            self.assertEqual(best_treaty(HALVES, (100000, 0), years), 0)

    def test_against_all_cases(self):
        for seed in range(48):
            house = some_house(seed)
            plain = Plain(house)
            for reserve in (0, 1, 3, 6, 10):
                for weather in plain.weathers:
                    for years in range(1, 5):
                        state = (reserve, weather)
                        risks = [plain.risk(state, treaty, years) for treaty in plain.treaties]
                        answer = untouched(self, best_treaty, house, state, years)
                        self.assertEqual(answer, risks.index(min(risks)), (seed, state, years))

    def test_the_best_treaties_attain_the_least_chance(self):
        for seed in range(9, 48, 7):
            house = some_house(seed)
            plain = Plain(house)
            state = (3, 0)
            ruined, _ = plain.outlook(lambda now, left: best_treaty(house, now, left), state, 4)
            self.assertEqual(least_ruin(house, state, 4), pair(ruined))


class EveryWay(unittest.TestCase):
    def test_no_plan_has_a_smaller_chance(self):
        chooser = random.Random(10)
        for seed in range(40):
            house = some_house(seed)
            state = (chooser.randint(0, 8), chooser.randrange(len(house[0])))
            for years in (1, 2, 3, 6):
                least = read(least_ruin(house, state, years))
                for _ in range(4):
                    plan = some_plan(chooser, house)
                    self.assertLessEqual(least, read(plan_ruin(house, plan, state, years)))

    def test_no_choice_by_the_years_has_a_smaller_chance(self):
        chooser = random.Random(11)
        for seed in range(3, 40, 3):
            house = some_house(seed)
            plain = Plain(house)
            for _ in range(5):
                told = {}
                ruined, _ = plain.outlook(
                    lambda now, left: told.setdefault((now, left), chooser.choice(plain.treaties)), (2, 0), 4)
                self.assertLessEqual(read(least_ruin(house, (2, 0), 4)), ruined)


class Bounds(unittest.TestCase):
    def test_out_of_range(self):
        plan = [[0], [0]]
        house = ([(3, [even([0, 5])], even([0, 1]))] * 2, [FREE])
        for act in (least_ruin, best_treaty, lambda h, s, n: plan_ruin(h, plan, s, n),
                    lambda h, s, n: outlook(h, plan, s, n)):
            for years in (1, 60):
                for reserve in (-1, -2, 100001, HUGE, -HUGE):
                    refused(self, "OutOfRange", act, house, (reserve, 0), years)
                for weather in (-1, -2, 2, 3, HUGE, -HUGE):
                    refused(self, "OutOfRange", act, house, (4, weather), years)
            for years in (-1, -60, 61, 62, HUGE, -HUGE):
                refused(self, "OutOfRange", act, house, (4, 1), years)
            refused(self, "OutOfRange", act, house, (100001, 0), 0)
            refused(self, "OutOfRange", act, house, (0, 2), 0)
        refused(self, "OutOfRange", best_treaty, house, (4, 1), 0)

    def test_the_ends_of_the_ranges(self):
        house = ([(3, [even([0, 5])], even([0, 1]))] * 2, [FREE, FREE])
        for reserve in (0, 100000):
            for weather in (0, 1):
                for years in (0, 1, 60):
                    expected = (0, 1) if reserve or not years else (1, 2) if years == 1 else None
                    answer = least_ruin(house, (reserve, weather), years)
                    self.assertEqual(answer, expected or answer)
                    self.assertEqual(plan_ruin(house, [[0], [0]], (reserve, weather), years), answer)
                    self.assertEqual(outlook(house, [[0], [0]], (reserve, weather), years)[0], answer)
                    if years:
                        self.assertEqual(best_treaty(house, (reserve, weather), years), 0)

    def test_ruin_is_possible_from_100000(self):
        house = ([(0, [[(0, (1, 2)), (1000, (1, 2))]] * 2, SURE)], [(1000, [])])
        # Each year costs 1000 and two halves of 2000: 60 years cost more than 100000 after 41 damages.
        chances = Fraction(1, 2 ** 120)
        expected = sum(chances * choose(120, k) for k in range(41, 121))
        self.assertEqual(least_ruin(house, (100000, 0), 60), pair(expected))
        self.assertEqual(plan_ruin(house, [[0]], (100000, 0), 60), pair(expected))

    def test_numbers_of_states_that_are_not_refused(self):
        # Four weathers with 333 more reserves each year are 20000 states in the years 2 to 6.
        house = large_house(333)
        self.assertEqual(Plain(house).counted(lambda now: [0], (2000, 1), 3), 4 * (334 + 667))
        for act in (least_ruin, lambda h, s, n: plan_ruin(h, [[0]] * 4, s, n)):
            self.assertEqual(act(house, (5 * 333, 1), 5), (0, 1))
            self.assertEqual(act(house, (100000, 1), 6), (0, 1))
            self.assertEqual(read(act(house, (6 * 333 - 1, 1), 6)), Fraction(1, 360) ** 6)
        self.assertEqual(best_treaty(house, (100000, 0), 6), 0)
        ruined, rest = outlook(house, [[0]] * 4, (100000, 0), 6)
        self.assertEqual((ruined, len(rest)), ((0, 1), 4 * (6 * 333 + 1)))
        self.assertEqual(sum(read(chance) for _, _, chance in rest), 1)

    def test_only_the_first_years_but_one_are_counted(self):
        # 12004 states at the end of the last year, or of the year before it, are not too many.
        lines = [even(range(30)), even(range(0, 900, 30)), even(range(0, 1000, 100))]
        house = ([(0, lines, even(range(4)))] * 4, [FREE])
        for years in (1, 2):
            self.assertEqual(least_ruin(house, (100000, 0), years), (0, 1))
            self.assertEqual(outlook(house, [[0]] * 4, (100000, 0), years)[0], (0, 1))
        self.assertEqual(read(least_ruin(house, (2 * 1799 - 1, 0), 2)), Fraction(1, 9000) ** 2)

    def test_far_too_many_states(self):
        house = large_house(340)
        for act in (least_ruin, best_treaty, lambda h, s, n: plan_ruin(h, [[0]] * 4, s, n),
                    lambda h, s, n: outlook(h, [[0]] * 4, s, n)):
            for years in (12, 60):
                refused(self, "TooLong", act, house, (100000, 2), years)

    def test_whatever_is_answered_is_true(self):
        house = large_house(334)
        for act in (least_ruin, lambda h, s, n: plan_ruin(h, [[0]] * 4, s, n)):
            try:
                self.assertEqual(act(house, (100000, 0), 6), (0, 1))
            except TooLong:
                pass

    def test_years_without_new_states(self):
        # Always ruined at once, and always the same state: there is little to look at in 60 years.
        dear = ([(0, [[(1000, (1, 1))]], SURE)], [(1000, [])])
        self.assertEqual(least_ruin(dear, (1999, 0), 60), (1, 1))
        self.assertEqual(outlook(dear, [[0]], (1999, 0), 60), ((1, 1), []))
        still = ([(5, [], SURE)], [(5, [])])
        self.assertEqual(outlook(still, [[0]], (100000, 0), 60), ((0, 1), [(100000, 0, (1, 1))]))

    def test_a_plan_reaches_fewer_states_than_all_ways(self):
        house = (large_house(350)[0], [FREE, (0, [("share", (0, 1))])])
        self.assertEqual(plan_ruin(house, [[1]] * 4, (100000, 0), 60), (0, 1))
        self.assertEqual(len(outlook(house, [[1]] * 4, (100000, 0), 60)[1]), 4)
        refused(self, "TooLong", plan_ruin, house, [[0]] * 4, (100000, 0), 60)

    def test_a_plan_reaches_only_what_it_chooses(self):
        # The treaty 0 adds 0 to 340 to the reserve, which is too much for 60 years; the treaty 1 adds nothing.
        lines = [even(range(30)), even(range(0, 300, 30)), even([0, 41])]
        house = ([(340, lines, SURE)], [FREE, (340, [("share", (0, 1))])])
        for reserve in (0, 1, 5):
            for many in (0, 1, 4):
                plan = [[0] * reserve + [1] + [0] * many]
                if reserve and many:
                    refused(self, "TooLong", plan_ruin, house, plan, (reserve - 1, 0), 60)
                    refused(self, "TooLong", outlook, house, plan, (reserve + 1, 0), 60)
                for start in (reserve, reserve + 1, 100000)[:3 if many == 0 else 1]:
                    self.assertEqual(plan_ruin(house, plan, (start, 0), 60), (0, 1))
                    self.assertEqual(outlook(house, plan, (start, 0), 60), ((0, 1), [(start, 0, (1, 1))]))
        self.assertEqual(plan_ruin(house, [[1, 1, 1, 0]], (2, 0), 60), (0, 1))
        refused(self, "TooLong", plan_ruin, house, [[1, 1, 1, 0]], (3, 0), 60)


class Far(unittest.TestCase):
    """The states that are reached may be few, but lie far from 0 and far apart."""

    def test_one_state_in_each_year(self):
        house = ([(0, [], [(0, (1, 1))])], [(0, [])])
        for reserve in (0, 1, 1023, 1024, 99999, 100000):
            state = (reserve, 0)
            self.assertEqual(least_ruin(house, state, 60), (0, 1))
            self.assertEqual(best_treaty(house, state, 60), 0)
            for plan in ([[0]], [[0] * 5], [[0] * 100000], [[0] * 100001], [[0] * 100002]):
                self.assertEqual(plan_ruin(house, plan, state, 60), (0, 1))
                self.assertEqual(outlook(house, plan, state, 60), ((0, 1), [(reserve, 0, (1, 1))]))

    def test_the_same_years_from_another_reserve(self):
        # What a year may lose is less than these reserves, so it makes no difference where the years begin.
        for seed in range(12):
            house = some_house(seed)
            plan = [[len(house[1]) - 1] for _ in house[0]]
            _, near = outlook(house, plan, (60, 0), 2)
            for reserve in (1000, 1024, 2040, 30000, 100000):
                self.assertEqual(least_ruin(house, (reserve, 0), 2), (0, 1))
                self.assertEqual(best_treaty(house, (reserve, 0), 2), 0)
                moved = [(one - 60 + reserve, weather, chance) for one, weather, chance in near]
                self.assertEqual(outlook(house, plan, (reserve, 0), 2), ((0, 1), moved))

    def test_states_far_apart(self):
        chooser = random.Random(15)
        for seed in range(24):
            spans = [chooser.choice([1, 5, 300, 997, 1000]) for _ in range(2)]
            house = ([(chooser.choice([0, 400, 1000]), [some_spread(seed, 2, 0, 4), even([0, spans[0]]), even([0, spans[1]])],
                       even([0, 1])), (chooser.choice([0, 900]), [even([0, spans[0]])], SURE)],
                     [FREE, (chooser.choice([0, 600]), [("limit", 700)])])
            plain = Plain(house)
            plan = [[chooser.randrange(2) for _ in range(chooser.choice([1, 900, 1024, 1025, 1600]))] for _ in range(2)]
            for reserve in (0, 700, 1023, 1024, 1500, 2047, 3000):
                state, years = (reserve, reserve % 2), 3
                self.assertEqual(least_ruin(house, state, years), pair(plain.least(state, years)))
                risks = [plain.risk(state, treaty, years) for treaty in plain.treaties]
                self.assertEqual(best_treaty(house, state, years), risks.index(min(risks)))
                ruined, held = plain.outlook(lambda now, left: plain_chosen(plan, now), state, years)
                self.assertEqual(plan_ruin(house, plan, state, years), pair(ruined))
                self.assertEqual(outlook(house, plan, state, years),
                                 (pair(ruined), [(r, w, pair(held[r, w])) for r, w in sorted(held)]))

    def test_steps_of_1000_in_60_years(self):
        # Each year the reserve rises or falls by 1000, or stays: from 59999 it takes 60 falls to ruin, from 60000 there is none.
        house = ([(1000, [even([0, 1000]), even([0, 1000])], SURE)], [FREE, FREE])
        for reserve, expected in ((59999, Fraction(1, 4 ** 60)), (60000, 0), (100000, 0)):
            for act in (least_ruin, lambda h, s, n: plan_ruin(h, [[1]], s, n)):
                self.assertEqual(act(house, (reserve, 0), 60), pair(expected))

    def test_as_many_states_as_before_are_refused(self):
        # 20000 states are looked at, 20060 are not, wherever they lie.
        self.assertEqual([4 * sum(k * most + 1 for k in range(1, 6)) for most in (333, 334)], [20000, 20060])
        for reserve in (2004, 100000):
            for act in (least_ruin, lambda h, s, n: plan_ruin(h, [[0]] * 4, s, n)):
                self.assertEqual(act(large_house(333), (reserve, 3), 6), (0, 1))
                refused(self, "TooLong", act, large_house(334), (reserve, 3), 6)


def choose(many, some):
    found = 1
    for k in range(some):
        found = found * (many - k) // (k + 1)
    return found
