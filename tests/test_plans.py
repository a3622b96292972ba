"""Points 11 to 13: plans, their chances of ruin and their outlooks."""

import copy
import random
import unittest

from lastcoffer.spans import check_plan, chosen, least_ruin, outlook, plan_ruin
from common import HUGE, even, pair, read, refused, untouched
from plain import FREE, SAFE, SURE, WALK, Plain, plain_chosen, some_house, some_plan


def house_of(weathers, treaties):
    return ([(3, [], SURE)] * weathers, [FREE] * treaties)


class Checked(unittest.TestCase):
    def test_plans(self):
        for weathers in range(1, 5):
            for treaties in range(1, 5):
                house = house_of(weathers, treaties)
                self.assertIsNone(untouched(self, check_plan, house, [[treaties - 1]] * weathers))
                self.assertIsNone(untouched(self, check_plan, house, [list(range(treaties))] * weathers))
                self.assertIsNone(check_plan(house, [[0] * (1 + 40 * k) for k in range(weathers)]))
        self.assertIsNone(check_plan(house_of(1, 2), [[0, 1] * 60000]))

    def test_too_few_or_too_many_lists(self):
        for weathers in range(1, 5):
            for many in (0, 1, 2, 3, 4, 5, 9):
                if many != weathers:
                    refused(self, "OutOfRange", check_plan, house_of(weathers, 2), [[0, 1]] * many)

    def test_an_empty_list_at_each_place(self):
        for weathers in range(1, 5):
            for place in range(weathers):
                plan = [[0] for _ in range(weathers)]
                plan[place] = []
                refused(self, "OutOfRange", check_plan, house_of(weathers, 1), plan)

    def test_a_treaty_that_does_not_exist_at_each_place(self):
        for weathers in range(1, 5):
            for treaties in range(1, 5):
                for place in range(weathers):
                    for at in range(4):
                        for wrong in (-1, -treaties, treaties, treaties + 1, HUGE, -HUGE):
                            plan = [[0] * 4 for _ in range(weathers)]
                            plan[place][at] = wrong
                            refused(self, "OutOfRange", check_plan, house_of(weathers, treaties), plan)

    def test_the_arguments_stay(self):
        plan = [[0], [], [3]]
        before = copy.deepcopy(plan)
        refused(self, "OutOfRange", check_plan, house_of(3, 2), plan)
        self.assertEqual(plan, before)


class Chosen(unittest.TestCase):
    def test_within_the_lists_and_beyond(self):
        plan = [[2, 0, 1], [3]]
        self.assertEqual([chosen(plan, (r, 0)) for r in (0, 1, 2, 3, 4, 100000, HUGE)], [2, 0, 1, 1, 1, 1, 1])
        self.assertEqual([chosen(plan, (r, 1)) for r in (0, 1, 2, 100000)], [3, 3, 3, 3])

    def test_against_plain_reckoning(self):
        chooser = random.Random(12)
        for seed in range(30):
            plan = some_plan(chooser, some_house(seed))
            for weather in range(len(plan)):
                for reserve in range(9):
                    answer = untouched(self, chosen, plan, (reserve, weather))
                    self.assertEqual(answer, plain_chosen(plan, (reserve, weather)))


class Ruin(unittest.TestCase):
    def test_the_list_ends_before_the_reserve(self):
        # The treaty 1 costs 2 for sure, the treaty 0 nothing.
        house = ([(0, [], SURE)], [FREE, (2, [])])
        for plan, expected in (([[0]], 0), ([[1]], 1), ([[0, 1]], 1), ([[1, 0]], 0), ([[0] * 6 + [1]], 0),
                               ([[1] * 6 + [0]], 1), ([[0, 0, 1, 1, 1, 0, 0]], 0), ([[0, 1, 1, 1, 1, 1, 0]], 1)):
            self.assertEqual(plan_ruin(house, plan, (5, 0), 60), (expected, 1), plan)

    def test_no_years(self):
        for reserve in (0, 100000):
            self.assertEqual(plan_ruin(WALK, [[0]], (reserve, 0), 0), (0, 1))
            self.assertEqual(outlook(WALK, [[0]], (reserve, 0), 0), ((0, 1), [(reserve, 0, (1, 1))]))

    def test_against_all_cases(self):
        chooser = random.Random(13)
        for seed in range(48):
            house = some_house(seed)
            plain = Plain(house)
            for _ in range(3):
                plan = some_plan(chooser, house)
                state = (chooser.randint(0, 7), chooser.randrange(len(house[0])))
                for years in range(6):
                    ruined, held = plain.outlook(lambda now, left: plain_chosen(plan, now), state, years)
                    self.assertEqual(untouched(self, plan_ruin, house, plan, state, years), pair(ruined))
                    expected = [(r, w, pair(held[r, w])) for r, w in sorted(held)]
                    answer = untouched(self, outlook, house, plan, state, years)
                    self.assertEqual(answer, (pair(ruined), expected))
                    self.assertEqual(ruined + sum(read(chance) for _, _, chance in answer[1]), 1)

    def test_many_years(self):
        chooser = random.Random(14)
        for seed in (0, 3, 9, 1, 4, 18):
            house = some_house(seed, 3)
            plain = Plain(house)
            plan = some_plan(chooser, house, 3)
            ruined, held = plain.outlook(lambda now, left: plain_chosen(plan, now), (2, 0), 60)
            self.assertEqual(plan_ruin(house, plan, (2, 0), 60), pair(ruined))
            answer = outlook(house, plan, (2, 0), 60)
            self.assertEqual(answer, (pair(ruined), [(r, w, pair(held[r, w])) for r, w in sorted(held)]))

    def test_one_treaty_is_the_least_chance(self):
        for seed in (0, 1, 2, 12, 13, 14, 24, 25):
            house = some_house(seed)
            self.assertEqual(len(house[1]), 1)
            plan = [[0] for _ in house[0]]
            for reserve in range(6):
                for years in range(5):
                    self.assertEqual(plan_ruin(house, plan, (reserve, 0), years),
                                     least_ruin(house, (reserve, 0), years))


class Outlook(unittest.TestCase):
    def test_by_hand(self):
        house = ([(1, [even([0, 2])], even([0, 1])), (0, [], SURE)], [FREE])
        self.assertEqual(outlook(house, [[0], [0]], (0, 0), 1), ((1, 2), [(1, 0, (1, 4)), (1, 1, (1, 4))]))
        self.assertEqual(outlook(house, [[0], [0]], (0, 0), 2),
                         ((1, 2), [(0, 0, (1, 16)), (0, 1, (1, 16)), (1, 0, (1, 4)), (2, 0, (1, 16)), (2, 1, (1, 16))]))

    def test_the_order_is_that_of_reserves_then_weathers(self):
        house = ([(3, [even([0, 3, 7])], even(range(4)))] * 4, [FREE])
        _, rest = outlook(house, [[0]] * 4, (4, 3), 4)
        self.assertEqual(rest, sorted(rest))
        self.assertTrue(any(first[:2] != second[:2] and first[0] == second[0] for first, second in zip(rest, rest[1:])))

    def test_no_state_is_left(self):
        house = ([(0, [[(9, (1, 1))]], SURE)], [FREE])
        self.assertEqual(outlook(house, [[0]], (8, 0), 3), ((1, 1), []))
        self.assertEqual(outlook(house, [[0]], (9, 0), 1), ((0, 1), [(0, 0, (1, 1))]))

    def test_different_choices_in_different_weathers(self):
        house = ([(0, [], [(1, (1, 1))]), (0, [], [(0, (1, 1))])], [(1, []), (4, [])])
        self.assertEqual(outlook(house, [[0], [1]], (10, 0), 3), ((0, 1), [(4, 1, (1, 1))]))
        self.assertEqual(outlook(house, [[1], [0]], (10, 0), 3), ((0, 1), [(1, 1, (1, 1))]))
        self.assertEqual(outlook(house, [[1], [0]], (8, 0), 3), ((1, 1), []))

    def test_results_are_new(self):
        plan = [[0]]
        first = outlook(WALK, plan, (3, 0), 4)
        expected = copy.deepcopy(first)
        first[1].clear()
        self.assertEqual(outlook(WALK, plan, (3, 0), 4), expected)
        told = outlook(WALK, plan, (3, 0), 0)
        told[1].append("spoilt")
        self.assertEqual(outlook(WALK, plan, (3, 0), 0), ((0, 1), [(3, 0, (1, 1))]))
        self.assertEqual(plan, [[0]])

    def test_kinds(self):
        answer = outlook(WALK, [[0]], (2, 0), 3)
        self.assertIs(type(answer), tuple)
        self.assertIs(type(answer[1]), list)
        self.assertTrue(all(type(item) is tuple and type(item[2]) is tuple for item in answer[1]))

    def test_the_reserves_of_the_ends(self):
        for reserve in (0, 100000):
            self.assertEqual(outlook(SAFE, [[1]], (reserve, 0), 60), ((0, 1), [(reserve, 0, (1, 1))]))
            self.assertEqual(outlook(SAFE, [[0]], (reserve, 0), 60), ((0, 1), [(reserve + 420, 0, (1, 1))]))
