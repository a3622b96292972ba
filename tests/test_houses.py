"""Points 7 and 8: houses, and the changes of the reserve."""

import copy
import unittest

from lastcoffer.chances import check_spread
from lastcoffer.houses import change_of, check_house, total_damage
from common import HUGE, even, is_new, plainly_gathered, refused, some_spread, untouched
from plain import FREE, SAFE, SURE, WALK, plain_change, plain_damage, some_house

FIRE = [(0, (3, 4)), (6, (1, 4))]
STAY = (3, [FIRE], SURE)
LAYERS = [("share", (1, 2)), ("limit", 7), ("band", 0, 1000), ("share", (0, 1))]
BAD_SPREADS = [[], [(0, (1, 2))], [(0, (2, 2))], [(0, (1, 0))], [(0, (0, 1))], [(1, (1, 2)), (0, (1, 2))],
               [(0, (1, 2)), (0, (1, 2))], [(0, (3, 2)), (1, (-1, 2))], [(0, (1, 2)), (1, (2, 3))],
               [(0, (2, 4)), (1, (1, 2))], [(0, (-1, -1))]]


def full_house():
    """Return a house with as many weathers, lines and treaties as there may be."""
    weathers = [(100 * w, [FIRE, even([0, 1000]), some_spread(w, 30, 0, 1000)], even(range(4))) for w in range(4)]
    return (weathers, [(k, list(LAYERS)) for k in range(4)])


class Valid(unittest.TestCase):
    def takes(self, weathers, treaties):
        self.assertIsNone(untouched(self, check_house, (weathers, treaties)))

    def test_all_numbers_of_weathers_and_treaties(self):
        for many in range(1, 5):
            for treaties in range(1, 5):
                turns = even(range(many))
                self.takes([(1, [FIRE], turns) for _ in range(many)], [(k, [("limit", k)]) for k in range(treaties)])

    def test_the_bounds(self):
        self.takes(*full_house())
        for premium in (0, 1, 999, 1000):
            self.takes([(premium, [], SURE)], [FREE])
        for many in range(4):
            self.takes([(0, [even([0, 1000])] * many, SURE)], [FREE])
        for price in (0, 1000):
            self.takes([(0, [], SURE)], [(price, LAYERS)])

    def test_turns_to_any_weather(self):
        for turn in range(4):
            self.takes([(0, [], [(turn, (1, 1))]) for _ in range(4)], [FREE])
        self.takes([(0, [], [(0, (1, HUGE)), (3, (HUGE - 1, HUGE))]) for _ in range(4)], [FREE])

    def test_houses_of_the_other_tests(self):
        for seed in range(60):
            self.takes(*some_house(seed))
        self.takes(*WALK)
        self.takes(*SAFE)


class Refused(unittest.TestCase):
    def refuses(self, weathers, treaties):
        refused(self, "BadHouse", check_house, (weathers, treaties))

    def refuses_at_each_weather(self, weather):
        """Try a weather with a fault in houses of all sizes, at each place."""
        for many in range(1, 5):
            for place in range(many):
                weathers = [STAY for _ in range(many)]
                weathers[place] = weather
                self.refuses(weathers, [FREE])

    def test_no_weathers_or_treaties(self):
        self.refuses([], [FREE])
        self.refuses([STAY], [])
        self.refuses([], [])

    def test_too_many_weathers_or_treaties(self):
        for many in (5, 6, 40):
            self.refuses([STAY] * many, [FREE])
            self.refuses([STAY], [FREE] * many)
            self.refuses([(0, [], even(range(many)))] * many, [FREE])

    def test_premiums(self):
        for premium in (-1, 1001, -HUGE, HUGE):
            self.refuses_at_each_weather((premium, [FIRE], SURE))

    def test_too_many_lines(self):
        for many in (4, 5, 30):
            self.refuses_at_each_weather((0, [FIRE] * many, SURE))
            self.refuses_at_each_weather((0, [SURE] * many, SURE))

    def test_lines(self):
        wrong = BAD_SPREADS + [even(range(31)), even([-1, 5]), even([5, 1001]), [(-1, (1, 1))], [(1001, (1, 1))]]
        for line in wrong:
            for many in (1, 2, 3):
                for place in range(many):
                    lines = [FIRE] * many
                    lines[place] = line
                    self.refuses_at_each_weather((0, lines, SURE))

    def test_turns_that_are_no_spread(self):
        for turns in BAD_SPREADS:
            self.refuses_at_each_weather((0, [FIRE], turns))
            self.refuses_at_each_weather((0, [], turns))

    def test_turns_to_a_weather_that_does_not_exist(self):
        for many in range(1, 5):
            for place in range(many):
                for turns in ([(-1, (1, 1))], [(many, (1, 1))], even([-1, 0]), even([0, many]), even(range(many + 1)),
                              [(-HUGE, (1, 1))], [(0, (HUGE - 1, HUGE)), (HUGE, (1, HUGE))]):
                    weathers = [STAY for _ in range(many)]
                    weathers[place] = (0, [], turns)
                    self.refuses(weathers, [FREE])

    def test_treaties(self):
        wrong = [(-1, []), (1001, []), (0, LAYERS + [("limit", 3)]), (0, [("limit", 1001)]), (0, [("share", (2, 4))]),
                 (0, [("share", (3, 2))]), (0, [("band", 5, 4)]), (0, [("quota", 5)]), (0, [("limit",)])]
        for treaty in wrong:
            for many in range(1, 5):
                for place in range(many):
                    treaties = [FREE] * many
                    treaties[place] = treaty
                    self.refuses([STAY], treaties)

    def test_a_fault_in_a_full_house(self):
        weathers, treaties = full_house()
        self.refuses(weathers + [STAY], treaties)
        self.refuses(weathers, treaties + [FREE])
        self.refuses(weathers[:3], treaties)
        self.refuses(weathers, treaties[:3] + [(0, LAYERS + [("limit", 1)])])

    def test_the_house_stays(self):
        for house in (([STAY] * 5, [FREE]), ([STAY], [(0, [("limit", -1)])]), ([(0, [FIRE, []], SURE)], [FREE])):
            before = copy.deepcopy(house)
            refused(self, "BadHouse", check_house, house)
            self.assertEqual(house, before)


class Damages(unittest.TestCase):
    def test_no_lines(self):
        for house in (SAFE, ([STAY, (9, [], SURE)], [(5, LAYERS)])):
            self.assertEqual(total_damage(house, len(house[0]) - 1), SURE)
            is_new(self, total_damage, house, len(house[0]) - 1)

    def test_one_line_and_more(self):
        house = ([(0, [FIRE], SURE), (5, [FIRE, even([1, 2])], SURE), (0, [FIRE, FIRE, FIRE], SURE)], [FREE])
        self.assertEqual(total_damage(house, 0), FIRE)
        self.assertEqual(total_damage(house, 1), [(1, (3, 8)), (2, (3, 8)), (7, (1, 8)), (8, (1, 8))])
        self.assertEqual(total_damage(house, 2), [(0, (27, 64)), (6, (27, 64)), (12, (9, 64)), (18, (1, 64))])

    def test_against_plain_reckoning(self):
        for seed in range(60):
            house = some_house(seed, 40)
            for weather in range(len(house[0])):
                expected = plainly_gathered(list(plain_damage(house, weather).items()))
                self.assertEqual(untouched(self, total_damage, house, weather), expected)
                is_new(self, total_damage, house, weather)

    def test_many_values(self):
        house = full_house()
        answer = untouched(self, total_damage, house, 2)
        self.assertIsNone(check_spread(answer))
        self.assertEqual(answer, plainly_gathered(list(plain_damage(house, 2).items())))

    def test_no_such_weather(self):
        for seed in range(3):
            house = some_house(seed)
            for weather in (-1, -2, len(house[0]), len(house[0]) + 1, HUGE, -HUGE):
                refused(self, "OutOfRange", total_damage, house, weather)


class Changes(unittest.TestCase):
    def test_by_hand(self):
        house = ([(10, [FIRE, FIRE], SURE), (1, [], SURE)], [(0, []), (3, [("share", (1, 4))]), (1, [("limit", 6)])])
        self.assertEqual(change_of(house, 0, 0), [(-2, (1, 16)), (4, (3, 8)), (10, (9, 16))])
        # What remains of 6 and 12 is 2 and 3: the treaty is applied to the sum of the lines.
        self.assertEqual(change_of(house, 0, 1), [(4, (1, 16)), (5, (3, 8)), (7, (9, 16))])
        self.assertEqual(change_of(house, 0, 2), [(3, (7, 16)), (9, (9, 16))])
        self.assertEqual([change_of(house, 1, t) for t in range(3)], [[(k, (1, 1))] for k in (1, -2, 0)])

    def test_the_greatest_loss_and_gain(self):
        worst = ([(0, [[(1000, (1, 1))]] * 3, SURE), (1000, [], SURE)], [(1000, []), (0, [("share", (0, 1))])])
        self.assertEqual(change_of(worst, 0, 0), [(-4000, (1, 1))])
        self.assertEqual(change_of(worst, 1, 1), [(1000, (1, 1))])

    def test_a_sum_beyond_a_limit_of_1000(self):
        house = ([(0, [[(1000, (1, 1))]] * 3, SURE)], [(0, [("band", 0, 1000)]), (0, [("limit", 1000)])])
        self.assertEqual(change_of(house, 0, 0), [(-2000, (1, 1))])
        self.assertEqual(change_of(house, 0, 1), [(-1000, (1, 1))])

    def test_against_plain_reckoning(self):
        for seed in range(60):
            house = some_house(seed, 40)
            for weather in range(len(house[0])):
                for treaty in range(len(house[1])):
                    expected = plainly_gathered(list(plain_change(house, weather, treaty).items()))
                    answer = untouched(self, change_of, house, weather, treaty)
                    self.assertEqual(answer, expected)
                    self.assertIsNone(check_spread(answer))
                    is_new(self, change_of, house, weather, treaty)

    def test_no_such_weather_or_treaty(self):
        for seed in range(12):
            house = some_house(seed)
            for index in (-1, -2, -HUGE, 4, 5, HUGE):
                refused(self, "OutOfRange", change_of, house, index, 0)
                refused(self, "OutOfRange", change_of, house, 0, index)
                refused(self, "OutOfRange", change_of, house, index, index)
            refused(self, "OutOfRange", change_of, house, len(house[0]), 0)
            refused(self, "OutOfRange", change_of, house, 0, len(house[1]))

    def test_chances_stay_exact(self):
        house = ([(0, [[(0, (1, HUGE)), (1, (HUGE - 1, HUGE))]] * 3, SURE)], [FREE])
        self.assertEqual(change_of(house, 0, 0)[-1], (0, (1, HUGE ** 3)))
        self.assertEqual(change_of(house, 0, 0)[0], (-3, ((HUGE - 1) ** 3, HUGE ** 3)))
