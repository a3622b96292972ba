"""What the points promise together."""

import random
import unittest
from fractions import Fraction

from lastcoffer.barriers import best_barrier, yields
from lastcoffer.desk import Desk
from lastcoffer.exact import exact_ruin, is_certain, least_reserve
from lastcoffer.finders import better_plan, find_lower, find_upper
from lastcoffer.houses import change_of
from lastcoffer.spans import least_ruin, outlook, plan_ruin
from lastcoffer.tables import is_lower, is_upper, value_at
from common import pair, read, some_spread
from plain import FREE, SURE, Plain, some_house, some_plan, some_table


def some_papers(seed, most=4):
    """Return a house with upper and lower papers that the judge takes: found ones, better ones and drawn ones."""
    chooser = random.Random(seed)
    house = some_house(seed, most)
    uppers, lowers = [], []
    for q in ((1, 2), (3, 4), (9, 10)):
        treaties = [chooser.randrange(len(house[1])) for _ in house[0]]
        found = find_upper(house, treaties, size=seed % 9, q=q, grain=10 ** (seed % 5), rounds=seed % 7)
        if found is not None:
            uppers += [found, (better_plan(house, found), found[1])]
        lowers.append(find_lower(house, discount=pair(Fraction(seed % 9 + 1, seed % 9 + 2)), size=seed % 9, q=q,
                                 grain=10 ** (seed % 5), rounds=seed % 7))
        for d in ((1, 2), (9, 10)):
            table = some_table(chooser, house, seed % 3, (-2, 8))
            uppers.append((some_plan(chooser, house), table))
            lowers.append((d, table))
    return house, [paper for paper in uppers if is_upper(house, paper)], [paper for paper in lowers if is_lower(house, paper)]


def one_weather(seed, gain):
    """Return a house with one weather in which a year earns at most so much."""
    chooser = random.Random(seed)
    damage = some_spread(seed, chooser.randint(1, 4), 0, 5)
    if damage[0][0] > 0:
        damage = [(value - damage[0][0], chance) for value, chance in damage]
    return ([(gain, [damage], SURE)], [FREE, (gain, [("share", (1, 2))]), (0, [("limit", 3)])])


class Papers(unittest.TestCase):
    def test_the_judge_takes_what_is_found(self):
        for seed in range(60):
            chooser = random.Random(seed)
            house = some_house(seed, 4)
            treaties = [chooser.randrange(len(house[1])) for _ in house[0]]
            named = {"size": seed % 11, "q": (4, 5), "grain": 1 + seed * seed, "rounds": seed % 8}
            found = find_upper(house, treaties, **named)
            if found is not None:
                self.assertIs(is_upper(house, found), True)
                self.assertIs(is_upper(house, (better_plan(house, found), found[1])), True)
            self.assertIs(is_lower(house, find_lower(house, discount=(6, 7), **named)), True)

    def test_upper_papers_are_true(self):
        told = 0
        for seed in range(60):
            house, uppers, _ = some_papers(seed)
            for plan, table in uppers:
                told += 1
                for reserve in range(7):
                    for weather in range(len(house[0])):
                        worth = read(value_at(table, reserve, weather))
                        for years in (1, 2, 5):
                            self.assertLessEqual(read(plan_ruin(house, plan, (reserve, weather), years)), worth)
        self.assertGreater(told, 100)

    def test_lower_papers_are_true(self):
        told = 0
        for seed in range(60):
            house, _, lowers = some_papers(seed)
            for d, table in lowers:
                told += 1
                for reserve in range(7):
                    for weather in range(len(house[0])):
                        worth = read(value_at(table, reserve, weather))
                        for years in (0, 1, 2, 5):
                            least = read(least_ruin(house, (reserve, weather), years))
                            self.assertGreaterEqual(least, worth - read(d) ** years)
        self.assertGreater(told, 100)

    def test_lower_papers_are_below_upper_papers(self):
        for seed in range(60):
            house, uppers, lowers = some_papers(seed)
            for _, high in uppers:
                for _, low in lowers:
                    for reserve in range(12):
                        for weather in range(len(house[0])):
                            self.assertLessEqual(read(value_at(low, reserve, weather)), read(value_at(high, reserve, weather)))

    def test_the_exact_chance_lies_between_the_papers(self):
        told = 0
        for seed in range(40):
            house = one_weather(seed, 1)
            only = (house[0], house[1][:1])
            spread = change_of(house, 0, 0)
            for q in ((1, 2), (4, 5)):
                found = find_upper(house, [0], size=12, q=q, grain=1000, rounds=25)
                low = find_lower(only, discount=(49, 50), size=12, q=q, grain=1000, rounds=25)
                for reserve in range(15):
                    exact = read(exact_ruin(spread, reserve))
                    self.assertLessEqual(read(value_at(low[1], reserve, 0)), exact)
                    if found is not None:
                        told += 1
                        self.assertLessEqual(exact, read(value_at(found[1], reserve, 0)))
        self.assertGreater(told, 100)


class Exact(unittest.TestCase):
    def test_the_chance_for_ever(self):
        certain = 0
        for seed in range(40):
            house = one_weather(seed, 1)
            for treaty in range(3):
                spread = change_of(house, 0, treaty)
                ruins = [read(exact_ruin(spread, reserve)) for reserve in range(16)]
                certain += is_certain(spread)
                self.assertEqual(ruins, sorted(ruins, reverse=True))
                self.assertEqual(set(ruins) == {1}, is_certain(spread))
                for reserve in range(15):
                    after = sum(read(chance) * (1 if reserve + value < 0 else ruins[reserve + value])
                                for value, chance in spread)
                    self.assertEqual(ruins[reserve], after)
                    self.assertEqual(read(exact_ruin(spread, least_reserve(spread, pair(ruins[reserve])))), ruins[reserve])
                for reserve in (0, 2, 5):
                    previous = 0
                    for years in (0, 1, 2, 5, 20):
                        within = read(plan_ruin(house, [[treaty]], (reserve, 0), years))
                        self.assertTrue(previous <= within <= ruins[reserve])
                        previous = within
        self.assertGreater(certain, 10)

    def test_the_chance_within_many_years_comes_close(self):
        for spread in ([(0, (2, 3)), (2, (1, 3))], [(0, (4, 5)), (3, (1, 5))]):
            house = ([(1, [spread], SURE)], [FREE])
            for reserve in (0, 3):
                exact = read(exact_ruin(change_of(house, 0, 0), reserve))
                self.assertLess(exact - read(plan_ruin(house, [[0]], (reserve, 0), 60)), Fraction(1, 20))


class Dividends(unittest.TestCase):
    def test_the_years_are_the_sum_of_the_chances_of_no_ruin(self):
        # The plan sees the same years up to a barrier that it does not reach.
        for seed in range(30):
            house = one_weather(seed, 1)
            found = yields(house, [[0]], 40)[0][0]
            if found is not None:
                held = sum(1 - read(plan_ruin(house, [[0]], (0, 0), years)) for years in range(30))
                self.assertLessEqual(held, read(found[0]))

    def test_nothing_is_lost(self):
        # What is paid out, and the last loss, is what the house gains: so the yields tell of the mean change.
        for seed in range(60):
            house = some_house(seed, 6)
            plain = Plain(house)
            plan = [[0] for _ in house[0]]
            means = {sum(value * chance for value, chance in plain.changes[w, 0].items()) for w in plain.weathers}
            rows = yields(house, plan, 5)
            if len(means) == 1:
                for row in rows:
                    for reserve, found in enumerate(row):
                        if found is not None:
                            # In the end the reserve is below 0, but not by more than the greatest loss.
                            gained = reserve + means.copy().pop() * read(found[0]) - read(found[1])
                            self.assertTrue(-plain.loss <= gained < 0, (seed, reserve))

    def test_the_best_barrier_is_the_best_of_the_yields(self):
        chooser = random.Random(80)
        for seed in range(60):
            house = some_house(seed, 6)
            plan = some_plan(chooser, house)
            weather = chooser.randrange(len(house[0]))
            for reserve in (0, 2):
                paid = {}
                for barrier in range(reserve, 8):
                    found = yields(house, plan, barrier)[weather][reserve]
                    if found is not None:
                        paid[barrier] = read(found[1])
                best = min(barrier for barrier in paid if paid[barrier] == max(paid.values())) if paid else None
                self.assertEqual(best_barrier(house, plan, (reserve, weather), 7), best)


class Desks(unittest.TestCase):
    def test_the_bounds_hold(self):
        for seed in range(40):
            house = some_house(seed, 4)
            desk = Desk(house)
            desk.ask("lower 8 9/10 1/2 1000 8")
            if desk.ask("upper 8 4/5 1000 8") == "ok":
                for reserve in range(10):
                    low, high = [Fraction(word) for word in desk.ask(f"bounds {reserve} 0").split()]
                    self.assertLessEqual(low, high)
                    self.assertLessEqual(Fraction(desk.ask(f"within {reserve} 0 6")), high)
                    self.assertGreaterEqual(Fraction(desk.ask(f"ruin {reserve} 0 6")), low - Fraction(9, 10) ** 6)

    def test_one_is_the_sum_of_all_chances(self):
        for seed in range(20):
            house = some_house(seed)
            plan = [[0] for _ in house[0]]
            ruined, rest = outlook(house, plan, (3, 0), 5)
            self.assertEqual(read(ruined) + sum(read(chance) for _, _, chance in rest), 1)
            self.assertEqual(ruined, plan_ruin(house, plan, (3, 0), 5))
