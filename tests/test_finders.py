"""Points 19 to 22: weights, tails, papers that are found, and better plans."""

import random
import unittest
from fractions import Fraction

from lastcoffer.finders import better_plan, find_lower, find_upper, tail, weight
from lastcoffer.houses import change_of
from lastcoffer.tables import check_table, is_lower, is_upper
from common import HUGE, even, fresh, pair, read, refused, some_spread, untouched
from plain import (FREE, SAFE, SURE, WALK, Plain, found_lower, found_upper, plain_chosen, solution,
                   some_house, some_plan, some_table)

# In both weathers the reserve falls by 1 for sure, and the next weather is the same one with the chance 3/4.
FALLING = ([(0, [[(1, (1, 1))]], [(0, (3, 4)), (1, (1, 4))]), (0, [[(1, (1, 1))]], [(0, (1, 4)), (1, (3, 4))])], [FREE])
WRONG_RATIOS = [(0, 1), (1, 1), (-1, 2), (3, 2), (2, 1), (-1, 1), (HUGE + 1, HUGE), (-1, HUGE), (HUGE, 1), (-HUGE, 1)]


def some_ratio(chooser):
    low = chooser.randint(2, 12)
    return Fraction(chooser.randint(1, low - 1), low)


def plain_weight(spread, q):
    return sum(read(chance) * (q ** value if value >= 0 else 1 / q ** -value) for value, chance in spread)


class Weight(unittest.TestCase):
    def test_by_hand(self):
        self.assertEqual(weight([(-1, (1, 3)), (1, (2, 3))], (1, 2)), (1, 1))
        self.assertEqual(weight([(-1, (1, 3)), (1, (2, 3))], (2, 3)), (17, 18))
        self.assertEqual(weight([(0, (1, 1))], (1, 7)), (1, 1))
        self.assertEqual(weight([(3, (1, 1))], (2, 3)), (8, 27))
        self.assertEqual(weight([(-3, (1, 1))], (2, 3)), (27, 8))
        self.assertEqual(weight([(2, (1, 4)), (5, (3, 4))], (1, 2)), (11, 128))
        self.assertEqual(weight([(-5, (3, 4)), (-2, (1, 4))], (1, 2)), (25, 1))

    def test_a_q_of_at_least_1(self):
        self.assertEqual(weight([(-1, (1, 3)), (1, (2, 3))], (1, 1)), (1, 1))
        self.assertEqual(weight([(-1, (1, 3)), (1, (2, 3))], (2, 1)), (3, 2))
        self.assertEqual(weight([(-2, (1, 3)), (3, (2, 3))], (5, 2)), pair(Fraction(4, 75) + Fraction(125, 12)))

    def test_against_plain_reckoning(self):
        chooser = random.Random(40)
        for seed in range(150):
            low, high = chooser.choice([(-9, 9), (-9, -1), (1, 9), (-40, 3), (0, 30), (-300, 200)])
            spread = some_spread(seed, chooser.randint(1, 6), low, high)
            for q in (some_ratio(chooser), 1 / some_ratio(chooser)):
                self.assertEqual(untouched(self, weight, spread, pair(q)), pair(plain_weight(spread, q)))

    def test_changes_of_houses(self):
        for seed in range(24):
            house = some_house(seed)
            plain = Plain(house)
            for (w, t), change in plain.changes.items():
                expected = sum(chance * Fraction(2, 3) ** value for value, chance in change.items())
                self.assertEqual(weight(change_of(house, w, t), (2, 3)), pair(expected))

    def test_far_values(self):
        spread = [(-4000, (1, 2)), (1000, (1, 2))]
        self.assertEqual(weight(spread, (1, 2)), (2 ** 5000 + 1, 2 ** 1001))
        self.assertEqual(weight([(-4000, (1, 1))], (HUGE - 1, HUGE)), (HUGE ** 4000, (HUGE - 1) ** 4000))


class Tail(unittest.TestCase):
    def test_one_weather(self):
        # The tail of one weather is 1, if the weight is less than 1: that is so for q between 1/2 and 1.
        for q, expected in (((1, 3), None), ((1, 2), None), ((HUGE // 2 + 2, HUGE), [(1, 1)]), ((2, 3), [(1, 1)]),
                            ((99, 100), [(1, 1)]), ((HUGE // 2, HUGE), None), ((1, HUGE), None)):
            self.assertEqual(fresh(self, tail, WALK, [0], q), expected, q)
        self.assertEqual(tail(SAFE, [0], (1, 2)), [(1, 1)])
        self.assertIsNone(tail(SAFE, [1], (1, 2)))
        self.assertIsNone(tail(([(0, [[(1, (1, 1))]], SURE)], [FREE]), [0], (1, 2)))

    def test_two_weathers(self):
        # c(0) = 1 + c(1) / 2, and c(1) = 1 + 2 * c(0) / 3 for q = 2 / 3 and changes of the values below.
        house = ([(1, [[(0, (1, 1))]], [(1, (1, 1))]), (2, [], [(0, (1, 1))])], [FREE])
        c = [Fraction(5, 3) / (1 - Fraction(8, 27)), Fraction(13, 9) / (1 - Fraction(8, 27))]
        self.assertEqual(fresh(self, tail, house, [0, 0], (2, 3)), [pair(c[0] / c[1]), (1, 1)])

    def test_no_solution_and_many_solutions(self):
        # With q = 1/2 all weights are 2. The two equations are the same one, or they contradict each other.
        self.assertIsNone(tail(FALLING, [0, 0], (1, 2)))
        swap = ([(0, [[(1, (1, 1))]], [(1, (1, 1))]), (1, [], [(0, (1, 1))])], [FREE])
        self.assertIsNone(tail(swap, [0, 0], (1, 2)))

    def test_a_solution_that_is_not_greater_than_0(self):
        # c(1) = 1 + 3/2 * c(1) is -2, and c(0) = 1 + 1/2 * c(1) is 0.
        house = ([(1, [], [(1, (1, 1))]), (1, [[(0, (1, 3)), (2, (2, 3))]], [(1, (1, 1))])], [FREE])
        self.assertEqual([weight(change_of(house, w, 0), (1, 2)) for w in (0, 1)], [(1, 2), (3, 2)])
        self.assertIsNone(tail(house, [0, 0], (1, 2)))
        # Here only one of the two weathers has a weight above 1, and only its own item is below 0.
        house = ([(1, [], SURE), (0, [[(1, (1, 1))]], [(1, (1, 1))])], [FREE])
        self.assertIsNone(tail(house, [0, 0], (1, 2)))
        self.assertIsNone(tail((house[0][::-1], [FREE]), [0, 0], (1, 2)))
        # A weight above 1 does no harm if the next weather is a good one.
        house = ([(1, [], SURE), (0, [[(1, (1, 1))]], SURE)], [FREE])
        self.assertEqual(tail(house, [0, 0], (1, 2)), [(1, 1), (5, 2)])

    def test_the_treaties_of_the_weathers(self):
        house = ([(3, [even([0, 4])], even([0, 1])), (2, [even([0, 3])], even([0, 1]))],
                 [FREE, (1, [("share", (1, 2))]), (2, [("limit", 1)])])
        told = set()
        for first in range(3):
            for second in range(3):
                found = solution(Plain(house), [first, second], Fraction(4, 5))
                answer = fresh(self, tail, house, [first, second], (4, 5))
                self.assertEqual(answer, None if found is None else [pair(c) for c in found])
                told.add(str(answer))
        self.assertGreater(len(told), 5)

    def test_against_plain_reckoning(self):
        chooser = random.Random(41)
        told = []
        for seed in range(240):
            house = some_house(seed, chooser.choice([3, 5, 8]))
            treaties = [chooser.randrange(len(house[1])) for _ in house[0]]
            q = some_ratio(chooser)
            found = solution(Plain(house), treaties, q)
            answer = untouched(self, tail, house, treaties, pair(q))
            self.assertEqual(answer, None if found is None else [pair(c) for c in found], (seed, treaties, q))
            told.append(answer is None)
        self.assertGreater(told.count(True), 60)
        self.assertGreater(told.count(False), 60)

    def test_the_tail_is_an_upper_paper(self):
        chooser = random.Random(42)
        for seed in range(90):
            house = some_house(seed, 5)
            treaties = [chooser.randrange(len(house[1])) for _ in house[0]]
            scales = tail(house, treaties, (3, 4))
            if scales is not None:
                self.assertEqual(min(read(c) for c in scales), 1)
                table = ([[] for _ in house[0]], scales, (3, 4))
                self.assertIs(is_upper(house, ([[t] for t in treaties], table)), True)

    def test_long_numbers(self):
        house = ([(900, [some_spread(w, 30, 0, 700)] * 2, even(range(4))) for w in range(4)], [FREE])
        self.assertIsNotNone(tail(house, [0] * 4, (999, 1000)))
        self.assertIsNone(tail(house, [0] * 4, (1, 1000)))


def upper(house, treaties, size=3, q=(2, 3), grain=100, rounds=2):
    return find_upper(house, treaties, size=size, q=q, grain=grain, rounds=rounds)


def lower(house, discount=(9, 10), size=3, q=(2, 3), grain=100, rounds=2):
    return find_lower(house, discount=discount, size=size, q=q, grain=grain, rounds=rounds)


class Refused(unittest.TestCase):
    def test_lists_of_treaties(self):
        for weathers in range(1, 5):
            for many in range(1, 5):
                house = ([(3, [], SURE)] * weathers, [FREE] * many)
                wrong = [[0] * other for other in range(7) if other != weathers]
                for place in range(weathers):
                    for index in (-1, -many, many, many + 1, HUGE, -HUGE):
                        wrong.append([0] * place + [index] + [many - 1] * (weathers - place - 1))
                for treaties in wrong:
                    refused(self, "OutOfRange", tail, house, treaties, (1, 2))
                    refused(self, "OutOfRange", upper, house, treaties)
                self.assertIsNotNone(tail(house, [many - 1] * weathers, (1, 2)))

    def test_ratios(self):
        for q in WRONG_RATIOS:
            refused(self, "OutOfRange", tail, WALK, [0], q)
            refused(self, "OutOfRange", upper, WALK, [0], q=q)
            refused(self, "OutOfRange", lower, WALK, q=q)
            refused(self, "OutOfRange", lower, WALK, discount=q)
        for q in ((1, HUGE), (HUGE - 1, HUGE)):
            self.assertIn(tail(WALK, [0], q), (None, [(1, 1)]))
            self.assertEqual(lower(WALK, discount=q, q=q, rounds=0), (q, ([[(0, 1)] * 3], [(0, 1)], q)))

    def test_numbers(self):
        for size in (-1, -400, 401, 402, HUGE, -HUGE):
            refused(self, "OutOfRange", upper, WALK, [0], size=size)
            refused(self, "OutOfRange", lower, WALK, size=size)
        for grain in (0, -1, 1000000001, HUGE, -HUGE):
            refused(self, "OutOfRange", upper, WALK, [0], grain=grain)
            refused(self, "OutOfRange", lower, WALK, grain=grain)
        for rounds in (-1, -200, 201, 202, HUGE, -HUGE):
            refused(self, "OutOfRange", upper, WALK, [0], rounds=rounds)
            refused(self, "OutOfRange", lower, WALK, rounds=rounds)

    def test_before_anything_else(self):
        # There is no tail for q = 1/2, but this is not looked at before the numbers.
        self.assertIsNone(upper(WALK, [0], q=(1, 2)))
        for named in ({"size": 401}, {"size": -1}, {"grain": 0}, {"grain": 1000000001}, {"rounds": -1}, {"rounds": 201}):
            refused(self, "OutOfRange", upper, WALK, [0], q=(1, 2), **named)
            refused(self, "OutOfRange", lower, WALK, **{"rounds": 0, **named})
            refused(self, "OutOfRange", upper, WALK, [0], **{"rounds": 0, "size": 0, **named})
        refused(self, "OutOfRange", upper, WALK, [1], size=0, rounds=0)
        refused(self, "OutOfRange", lower, WALK, discount=(1, 1), size=0, rounds=0)

    def test_the_arguments_are_passed_by_keyword(self):
        with self.assertRaises(TypeError):
            find_upper(WALK, [0], 3, (2, 3), 100, 2)
        with self.assertRaises(TypeError):
            find_lower(WALK, (9, 10), 3, (2, 3), 100, 2)


class Upper(unittest.TestCase):
    def test_by_hand(self):
        # The first rows are 1 and 2/3; the means after the reserves 0 and 1 are 1/3 + 4/9 and 1/3 + 8/27.
        self.assertEqual(upper(WALK, [0], size=2, rounds=0), ([[0]], ([[(1, 1), (2, 3)]], [(4, 9)], (2, 3))))
        self.assertEqual(upper(WALK, [0], size=2, rounds=1), ([[0]], ([[(39, 50), (63, 100)]], [(4, 9)], (2, 3))))
        # 1/3 + 2/3 * 63/100, and 1/3 * 39/50 + 2/3 * 4/9.
        self.assertEqual(upper(WALK, [0], size=2, rounds=2), ([[0]], ([[(19, 25), (14, 25)]], [(4, 9)], (2, 3))))
        self.assertEqual(upper(WALK, [0], size=2, rounds=1, grain=1), ([[0]], ([[(1, 1), (2, 3)]], [(4, 9)], (2, 3))))
        self.assertEqual(upper(WALK, [0], size=0), ([[0]], ([[]], [(1, 1)], (2, 3))))

    def test_a_mean_that_is_a_multiple(self):
        # The mean after the reserve 0 is 1/2 + 1/4, a multiple of 1/4, but not of 1/5.
        house = ([(1, [even([0, 2])], SURE), (9, [], SURE)], [FREE])
        house = ([(2, [[(0, (1, 2)), (3, (1, 4)), (2, (1, 4))]], SURE)], [FREE])
        spread = change_of(house, 0, 0)
        self.assertEqual(spread, [(-1, (1, 4)), (0, (1, 4)), (2, (1, 2))])
        for grain in (1, 2, 3, 4, 5, 8, 16, 1000, 1024):
            for rounds in range(4):
                self.assertEqual(upper(house, [0], size=5, q=(1, 2), grain=grain, rounds=rounds),
                                 found_upper(Plain(house), [0], Fraction(1, 2), 5, rounds, grain), (grain, rounds))

    def test_no_tail(self):
        for size in (0, 5):
            self.assertIsNone(upper(WALK, [0], size=size, q=(1, 2)))
            self.assertIsNone(upper(FALLING, [0, 0], size=size, rounds=0))

    def test_against_plain_reckoning(self):
        chooser = random.Random(43)
        told = 0
        for seed in range(200):
            house = some_house(seed, chooser.choice([3, 5, 8]))
            plain = Plain(house)
            treaties = [chooser.randrange(len(house[1])) for _ in house[0]]
            q = Fraction(chooser.randint(2, 9), 10)
            size, rounds = chooser.choice([0, 1, 2, 3, 7, 12]), chooser.choice([0, 1, 2, 5])
            grain = chooser.choice([1, 2, 7, 10, 1000, 1000000000])
            answer = upper(house, treaties, size, pair(q), grain, rounds)
            self.assertEqual(answer, found_upper(plain, treaties, q, size, rounds, grain), (seed, treaties, q))
            if answer is not None:
                told += 1
                self.assertIsNone(check_table(house, answer[1]))
                self.assertIs(is_upper(house, answer), True)
        self.assertGreater(told, 80)

    def test_many_rounds(self):
        chooser = random.Random(44)
        for seed in (0, 3, 4, 7, 10, 16):
            house = some_house(seed, 3)
            treaties = [chooser.randrange(len(house[1])) for _ in house[0]]
            for grain in (3, 50, 1000):
                answer = upper(house, treaties, 12, (9, 10), grain, 40)
                self.assertEqual(answer, found_upper(Plain(house), treaties, Fraction(9, 10), 12, 40, grain))

    def test_the_ends_of_the_ranges(self):
        for size in (0, 400):
            for grain in (1, 1000000000):
                previous = None
                for rounds in (0, 1, 200):
                    answer = untouched(self, upper, WALK, [0], size, (19, 20), grain, rounds)
                    plan, (rows, scales, q) = answer
                    self.assertEqual((plan, len(rows[0]), len(scales), q), ([[0]], size, 1, (19, 20)))
                    self.assertEqual(scales, [pair(Fraction(19, 20) ** size)])
                    self.assertIs(is_upper(WALK, answer), True)
                    if previous is not None:
                        self.assertTrue(all(read(new) <= read(old) for new, old in zip(rows[0], previous)))
                    previous = rows[0]
        # After 200 rounds of a fine grain, the values have come close to the chance of ruin, from above.
        self.assertTrue(all(0 < read(worth) - Fraction(1, 2) ** (r + 1) < Fraction(1, 20)
                            for r, worth in enumerate(previous)))

    def test_great_losses_and_premiums(self):
        house = ([(1000, [some_spread(5, 6, 0, 1000), [(0, (9, 10)), (900, (1, 10))]], even([0, 1])),
                  (700, [some_spread(6, 6, 0, 1000)], even([0, 1]))], [FREE, (1, [("limit", 800)])])
        plain = Plain(house)
        for treaties in ([0, 0], [1, 0]):
            answer = upper(house, treaties, 60, (999, 1000), 10 ** 6, 2)
            self.assertEqual(answer, found_upper(plain, treaties, Fraction(999, 1000), 60, 2, 10 ** 6))
            self.assertIs(is_upper(house, answer), True)

    def test_answers_are_new(self):
        treaties = [0]
        fresh(self, find_upper, WALK, treaties, size=4, q=(2, 3), grain=9, rounds=1)
        house = some_house(2, 3)
        for rounds in (0, 1, 3):
            answer = fresh(self, find_upper, house, [0] * 3, size=4, q=(9, 10), grain=9, rounds=rounds)
            self.assertIs(type(answer), tuple)
            self.assertIs(type(answer[1]), tuple)
        fresh(self, find_upper, house, [0] * 3, size=0, q=(9, 10), grain=9, rounds=2)


class Lower(unittest.TestCase):
    def test_by_hand(self):
        # 9/10 times the means 1/3 and 0; then 1/3 + 0 and 1/3 * 3/10.
        self.assertEqual(lower(WALK, size=2, rounds=1), ((9, 10), ([[(3, 10), (0, 1)]], [(0, 1)], (2, 3))))
        self.assertEqual(lower(WALK, size=2, rounds=2), ((9, 10), ([[(3, 10), (9, 100)]], [(0, 1)], (2, 3))))
        # 9/10 * (1/3 + 2/3 * 9/100) is 0.354.
        self.assertEqual(lower(WALK, size=2, rounds=3), ((9, 10), ([[(7, 20), (9, 100)]], [(0, 1)], (2, 3))))
        self.assertEqual(lower(WALK, size=2, rounds=3, grain=3), ((9, 10), ([[(0, 1), (0, 1)]], [(0, 1)], (2, 3))))
        self.assertEqual(lower(WALK, size=0), ((9, 10), ([[]], [(0, 1)], (2, 3))))
        self.assertEqual(lower(WALK, size=2, rounds=0), ((9, 10), ([[(0, 1), (0, 1)]], [(0, 1)], (2, 3))))

    def test_the_least_of_all_treaties(self):
        house = (WALK[0], [(2, []), FREE, (1, [])])
        self.assertEqual(lower(house, size=4, rounds=9), lower(WALK, size=4, rounds=9))
        house = (WALK[0], [FREE, (1, [("share", (0, 1))])])
        self.assertEqual(lower(house, size=4, rounds=9)[1][0], [[(0, 1)] * 4])

    def test_a_certain_loss(self):
        house = ([(0, [[(1, (1, 1))]], SURE)], [FREE])
        row = [(1, 2), (1, 4), (1, 8), (0, 1)]
        self.assertEqual(lower(house, (1, 2), 4, (1, 2), 8, 9), ((1, 2), ([row], [(0, 1)], (1, 2))))

    def test_against_plain_reckoning(self):
        chooser = random.Random(45)
        for seed in range(200):
            house = some_house(seed, chooser.choice([3, 5, 8]))
            q, d = some_ratio(chooser), some_ratio(chooser)
            size, rounds = chooser.choice([0, 1, 2, 3, 7, 12]), chooser.choice([0, 1, 2, 5])
            grain = chooser.choice([1, 2, 7, 10, 1000, 1000000000])
            answer = lower(house, pair(d), size, pair(q), grain, rounds)
            self.assertEqual(answer, found_lower(Plain(house), d, q, size, rounds, grain), seed)
            self.assertIsNone(check_table(house, answer[1]))
            self.assertIs(is_lower(house, answer), True)

    def test_many_rounds(self):
        for seed in (0, 3, 4, 7, 10, 16):
            house = some_house(seed, 3)
            for grain in (3, 50, 1000):
                answer = lower(house, (19, 20), 12, (1, 2), grain, 40)
                self.assertEqual(answer, found_lower(Plain(house), Fraction(19, 20), Fraction(1, 2), 12, 40, grain))

    def test_the_ends_of_the_ranges(self):
        for size in (0, 400):
            for grain in (1, 1000000000):
                for rounds in (0, 1, 200):
                    answer = untouched(self, lower, WALK, (999, 1000), size, (1, 2), grain, rounds)
                    discount, (rows, scales, q) = answer
                    self.assertEqual((discount, len(rows[0]), scales, q), ((999, 1000), size, [(0, 1)], (1, 2)))
                    self.assertIs(is_lower(WALK, answer), True)
                    if rounds == 0 or grain == 1:
                        self.assertEqual(rows, [[(0, 1)] * size])
        self.assertTrue(all(0 <= Fraction(1, 2) ** (r + 1) - read(worth) < Fraction(1, 100)
                            for r, worth in enumerate(rows[0])))

    def test_great_losses_and_premiums(self):
        house = ([(1000, [some_spread(5, 6, 0, 1000), [(0, (1, 10)), (900, (9, 10))]], even([0, 1])),
                  (700, [some_spread(6, 6, 0, 1000)], even([0, 1]))], [FREE, (1, [("limit", 800)])])
        answer = lower(house, (99, 100), 60, (1, 2), 10 ** 6, 3)
        self.assertEqual(answer, found_lower(Plain(house), Fraction(99, 100), Fraction(1, 2), 60, 3, 10 ** 6))
        self.assertTrue(any(worth != (0, 1) for worth in answer[1][0][1]))

    def test_answers_are_new(self):
        for rounds in (0, 1, 3):
            answer = fresh(self, find_lower, some_house(2, 3), discount=(9, 10), size=4, q=(1, 2), grain=9, rounds=rounds)
            self.assertIs(type(answer), tuple)
            self.assertIs(type(answer[1]), tuple)
        fresh(self, find_lower, some_house(5, 3), discount=(9, 10), size=0, q=(1, 2), grain=9, rounds=2)


class Better(unittest.TestCase):
    def plainly(self, plain, paper):
        """Return the better plan, by looking at each reserve."""
        plan, table = paper
        most = max([len(table[0][0])] + [len(choices) for choices in plan]) + plain.loss
        found = []
        for w in plain.weathers:
            means = [[plain.mean(table, (r, w), t) for t in plain.treaties] for r in range(most)]
            found.append([row.index(min(row)) for row in means] + [plain_chosen(plan, (most, w))])
        return found

    def test_by_hand(self):
        # The treaty 1 keeps the reserve as it is; the treaty 0 is the walk; the greatest loss is 1.
        house = (WALK[0], [FREE, (1, [("share", (0, 1))])])
        paper = ([[0]], ([[(1, 1), (1, 8)]], [(1, 16)], (1, 2)))
        self.assertEqual(fresh(self, better_plan, house, paper), [[0, 1, 0, 0]])
        paper = ([[1]], ([[(1, 2), (1, 4)]], [(1, 8)], (1, 2)))
        self.assertEqual(fresh(self, better_plan, house, paper), [[0, 0, 0, 1]])

    def test_the_least_treaty_of_equal_ones(self):
        house = (WALK[0], [(1, []), FREE, FREE, (1, [("share", (0, 1))])])
        paper = ([[2]], ([[(1, 2), (1, 4), (1, 8)]], [(1, 16)], (1, 2)))
        self.assertEqual(better_plan(house, paper), [[1] * 5 + [2]])

    def test_the_lists_of_the_old_plan_count(self):
        table = ([[(1, 2), (1, 4)]], [(1, 8)], (1, 2))
        house = (WALK[0], [FREE, (1, [])])
        for length in (1, 2, 3, 9):
            for last in (0, 1):
                plan = [[0] * (length - 1) + [last]]
                self.assertEqual(better_plan(house, (plan, table)), [[0] * (max(2, length) + 2) + [last]])

    def test_against_plain_reckoning(self):
        chooser = random.Random(46)
        changed = 0
        for seed in range(120):
            house = some_house(seed, 5)
            plain = Plain(house)
            treaties = [chooser.randrange(len(house[1])) for _ in house[0]]
            paper = upper(house, treaties, seed % 6, pair(Fraction(1 + seed % 4, 2 + seed % 4)), 1000, seed % 5)
            if paper is None:
                paper = (some_plan(chooser, house), some_table(chooser, house, seed % 4, (0, 9)))
            better = fresh(self, better_plan, house, paper)
            self.assertEqual(better, self.plainly(plain, paper))
            if is_upper(house, paper):
                self.assertIs(is_upper(house, (better, paper[1])), True)
                changed += any(set(row) != {t} for row, t in zip(better, treaties))
        self.assertGreater(changed, 5)

    def test_too_long(self):
        for size in (4999, 5000, 5001, 6000):
            for length in (1, 4999, 5000, 5001):
                zeros = ([[(0, 1)] * size], [(0, 1)], (1, 2))
                if max(size, length) > 5000:
                    refused(self, "TooLong", better_plan, SAFE, ([[1] * length], zeros))
                else:
                    self.assertEqual(better_plan(SAFE, ([[1] * length], zeros)), [[0] * max(size, length) + [1]])
        refused(self, "TooLong", better_plan, WALK, ([[0]], ([[(0, 1)] * 5000], [(0, 1)], (1, 2))))
        self.assertEqual(len(better_plan(WALK, ([[0]], ([[(0, 1)] * 4999], [(0, 1)], (1, 2))))[0]), 5001)
        # The loss of a treaty that is not chosen counts, too.
        house = (SAFE[0], [FREE, (1000, [])])
        zeros = ([[(0, 1)] * 4007], [(0, 1)], (1, 2))
        self.assertEqual(better_plan(house, ([[0]], zeros)), [[0] * 5001])
        refused(self, "TooLong", better_plan, house, ([[0]], ([[(0, 1)] * 4008], [(0, 1)], (1, 2))))

    def test_it_may_be_too_long_to_be_judged(self):
        paper = ([[0]], ([[(1, 1)] * 4999], [(1, 1)], (1, 2)))
        better = better_plan(WALK, paper)
        refused(self, "TooLong", is_upper, WALK, (better, paper[1]))
        refused(self, "TooLong", better_plan, WALK, (better, paper[1]))
