"""Points 25 and 26: dividends above a barrier."""

import random
import unittest
from fractions import Fraction

from lastcoffer.barriers import best_barrier, yields
from lastcoffer.houses import check_house
from common import HUGE, even, fresh, pair, read, refused, some_spread, untouched
from plain import FREE, SAFE, SURE, WALK, Plain, plain_chosen, plainly_solved, some_house, some_plan

# The reserve falls by 1 or rises by 1, with the chances of a half.
COIN = ([(1, [even([0, 2])], SURE)], [FREE])


def plain_steps(plain, plan, barrier):
    """Return a dict of dicts: the chances of the next states, None for ruin; and one of the mean dividends."""
    steps, paid = {}, {}
    for w in plain.weathers:
        for r in range(barrier + 1):
            found, paid[r, w] = {}, Fraction(0)
            for after, chance in plain.steps((r, w), plain_chosen(plan, (r, w))):
                if after is not None:
                    paid[r, w] += chance * max(0, after[0] - barrier)
                    after = (min(after[0], barrier), after[1])
                found[after] = found.get(after, 0) + chance
            steps[r, w] = found
    return steps, paid


def reached(steps, state):
    """Return all states to which a state leads, itself included."""
    found, waiting = set(), [state]
    while waiting:
        now = waiting.pop()
        if now not in found:
            found.add(now)
            waiting.extend(steps.get(now, {}))
    return found


def plain_yields(plain, plan, barrier):
    """Return the yields as a dict by states."""
    steps, paid = plain_steps(plain, plan, barrier)
    lasting = {state for state in steps if None not in reached(steps, state)}
    shorts = [state for state in steps if not lasting & reached(steps, state)]
    rows = [[(state == other) - steps[state].get(other, 0) for other in shorts] + [1, paid[state]] for state in shorts]
    found = dict.fromkeys(steps)
    for state, (years, part) in zip(shorts, plainly_solved(rows) if shorts else []):
        found[state] = (pair(years), pair(part))
    return found


def listed(plain, found, barrier):
    return [[found[r, w] for r in range(barrier + 1)] for w in plain.weathers]


class Yields(unittest.TestCase):
    def test_by_hand(self):
        # With the barrier 0 each year is the last one with the chance 1/2, otherwise it pays 1.
        self.assertEqual(fresh(self, yields, COIN, [[0]], 0), [[((2, 1), (1, 1))]])
        self.assertEqual(fresh(self, yields, COIN, [[0]], 1), [[((4, 1), (1, 1)), ((6, 1), (2, 1))]])
        self.assertEqual(yields(WALK, [[0]], 0), [[((3, 1), (2, 1))]])
        falling = ([(0, [[(1, (1, 1))]], SURE)], [FREE])
        self.assertEqual(yields(falling, [[0]], 3), [[((r + 1, 1), (0, 1)) for r in range(4)]])

    def test_a_coin_with_any_barrier(self):
        for barrier in (0, 1, 2, 7, 30, 59):
            expected = [((r + 1) * (2 * barrier + 2 - r), r + 1) for r in range(barrier + 1)]
            self.assertEqual(yields(COIN, [[0]], barrier), [[((n, 1), (d, 1)) for n, d in expected]])

    def test_the_dividend_is_all_that_is_above(self):
        # Without ruin, a year pays 5, 6 or 7 from the reserves 0, 1 and 2, and then the reserve is 2.
        house = ([(7, [even([0, 20])], SURE)], [FREE])
        self.assertEqual(yields(house, [[0]], 2), [[((2, 1), (6, 1)), ((2, 1), (13, 2)), ((2, 1), (7, 1))]])
        # From 14 the reserve stays 14 and 7 are paid, or it falls to 1, and from there it may come back by 8.
        self.assertEqual(yields(house, [[0]], 14)[0][14], ((14, 3), (29, 3)))

    def test_no_dividend_in_a_year_of_ruin(self):
        house = ([(9, [[(100, (1, 1))]], SURE)], [FREE])
        self.assertEqual(yields(house, [[0]], 5), [[((1, 1), (0, 1))] * 6])

    def test_lasting_states(self):
        self.assertEqual(yields(SAFE, [[0]], 4), [[None] * 5])
        self.assertEqual(yields(SAFE, [[1]], 0), [[None]])
        # The plan risks ruin below the reserve 3 only: from there on nothing happens.
        house = ([(1, [even([0, 2])], SURE)], [FREE, (1, [("share", (0, 1))])])
        self.assertEqual(yields(house, [[0, 0, 0, 1]], 5), [[None] * 6])
        self.assertEqual(yields(house, [[0, 0, 0, 1]], 2), yields(COIN, [[0]], 2))
        self.assertEqual(yields(house, [[0, 1, 0]], 4), [[None] * 5])

    def test_short_states_beside_others(self):
        # From 0 and 1 ruin comes for sure, 2 and 3 may fall to 1 or rise to 4, and 4 lasts.
        house = ([(2, [even([0, 4])], SURE)], [(2, [("limit", 1)]), FREE, (2, [("share", (0, 1))])])
        plan = [[0, 0, 1, 1, 2]]
        found = yields(house, plan, 4)
        self.assertEqual(found, [[((2, 1), (0, 1)), ((4, 1), (0, 1)), None, None, None]])
        # Two weathers, of which the second one is never left and lasts.
        house = ([(1, [even([0, 2])], even([0, 1])), (0, [], [(1, (1, 1))])], [FREE])
        self.assertEqual(yields(house, [[0], [0]], 1), [[None, None], [None, None]])
        house = ([(1, [even([0, 2])], SURE), (0, [], [(1, (1, 1))])], [FREE])
        self.assertEqual(yields(house, [[0], [0]], 1), [yields(COIN, [[0]], 1)[0], [None, None]])
        # A year in the second weather leads to the first one, and is paid nothing.
        house = ([(1, [even([0, 2])], SURE), (0, [], SURE)], [FREE])
        self.assertEqual(yields(house, [[0], [0]], 1)[1], [((5, 1), (1, 1)), ((7, 1), (2, 1))])

    def test_a_state_that_may_last_or_not(self):
        # After ruin has been escaped once, the weather 1 is safe for ever.
        house = ([(0, [even([0, 1])], [(1, (1, 1))]), (0, [], [(1, (1, 1))])], [FREE])
        self.assertEqual(yields(house, [[0], [0]], 0), [[None], [None]])
        # The reserve 0 is ruined for sure.
        house = ([(0, [[(1, (1, 1))]], [(1, (1, 1))]), (0, [], [(1, (1, 1))])], [FREE])
        self.assertEqual(yields(house, [[0], [0]], 1), [[((1, 1), (0, 1)), None], [None, None]])

    def test_against_plain_reckoning(self):
        chooser = random.Random(60)
        told = {"none": 0, "some": 0, "both": 0}
        for seed in range(160):
            house = some_house(seed, chooser.choice([3, 5, 9]))
            plain = Plain(house)
            plan = some_plan(chooser, house)
            for barrier in (0, 1, chooser.randint(2, 9)):
                expected = listed(plain, plain_yields(plain, plan, barrier), barrier)
                self.assertEqual(untouched(self, yields, house, plan, barrier), expected, (house, plan, barrier))
                flat = [one is None for row in expected for one in row]
                told["both" if len(set(flat)) == 2 else "none" if flat[0] else "some"] += 1
        self.assertGreater(min(told.values()), 8, told)

    def test_many_states(self):
        chooser = random.Random(61)
        for weathers, barrier in ((1, 59), (2, 29), (3, 19), (4, 14)):
            turns = [some_spread(seed, weathers, 0, weathers - 1) for seed in range(weathers)]
            house = ([(2 + w, [some_spread(w, 4, 0, 15)], turns[w]) for w in range(weathers)], [FREE, (1, [("limit", 6)])])
            plan = some_plan(chooser, house, 20)
            plain = Plain(house)
            self.assertEqual(yields(house, plan, barrier), listed(plain, plain_yields(plain, plan, barrier), barrier))

    def test_the_equations_of_a_year(self):
        house = ([(300, [some_spread(1, 30, 0, 1000), some_spread(2, 30, 0, 400)], SURE)], [FREE])
        self.assertIsNone(check_house(house))
        plain = Plain(house)
        found = yields(house, [[0]], 59)[0]
        steps, paid = plain_steps(plain, [[0]], 59)
        for r in range(60):
            after = [(chance, found[state[0]]) for state, chance in steps[r, 0].items() if state is not None]
            self.assertEqual(read(found[r][0]), 1 + sum(chance * read(one[0]) for chance, one in after))
            self.assertEqual(read(found[r][1]), paid[r, 0] + sum(chance * read(one[1]) for chance, one in after))

    def test_refused(self):
        for weathers in range(1, 5):
            house = ([(1, [even([0, 2])], SURE)] * weathers, [FREE])
            plan = [[0]] * weathers
            for barrier in (-1, -2, -HUGE):
                refused(self, "OutOfRange", yields, house, plan, barrier)
            most = 60 // weathers - 1
            self.assertEqual([len(row) for row in yields(house, plan, most)], [most + 1] * weathers)
            for barrier in (most + 1, most + 2, 60, 1000, HUGE):
                refused(self, "TooLong", yields, house, plan, barrier)

    def test_kinds(self):
        answer = fresh(self, yields, some_house(2, 3), [[0]] * 3, 3)
        self.assertEqual(([type(row) for row in answer], [len(row) for row in answer]), ([list] * 3, [4] * 3))
        self.assertTrue(all(type(one) is tuple for row in yields(COIN, [[0]], 5) for one in row))


class Best(unittest.TestCase):
    def plainly(self, plain, plan, state, most):
        best, greatest = None, None
        for barrier in range(state[0], most + 1):
            found = plain_yields(plain, plan, barrier)[state]
            if found is not None and (greatest is None or read(found[1]) > greatest):
                best, greatest = barrier, read(found[1])
        return best

    def test_by_hand(self):
        # The coin pays r + 1 with each barrier; so the least one is taken, which is r.
        for reserve in (0, 1, 5, 20):
            for most in (reserve, reserve + 1, 59):
                self.assertEqual(untouched(self, best_barrier, COIN, [[0]], (reserve, 0), most), reserve)
        # The good walk pays more with a greater barrier, the bad one pays less.
        for most in (4, 5, 59):
            self.assertEqual(best_barrier(WALK, [[0]], (4, 0), most), most)
        bad = ([(1, [[(0, (1, 3)), (2, (2, 3))]], SURE)], [FREE])
        for reserve, expected in ((0, 0), (4, 4)):
            self.assertEqual(best_barrier(bad, [[0]], (reserve, 0), 59), expected)

    def test_nothing_is_ever_paid(self):
        falling = ([(0, [[(1, (1, 1))]], SURE)], [FREE])
        for reserve in (0, 3, 59):
            self.assertEqual(best_barrier(falling, [[0]], (reserve, 0), 59), reserve)

    def test_none(self):
        for most in (0, 7, 59):
            self.assertIsNone(untouched(self, best_barrier, SAFE, [[0]], (0, 0), most))
            self.assertIsNone(best_barrier(SAFE, [[1]], (most, 0), most))

    def test_barriers_without_a_yield_are_passed_over(self):
        # From the barrier 3 on, the reserve 3 is reached, at which the plan stops all risk.
        house = ([(1, [[(0, (2, 3)), (2, (1, 3))]], SURE)], [FREE, (1, [("share", (0, 1))])])
        for most, expected in ((0, 0), (1, 1), (2, 2), (3, 2), (9, 2)):
            self.assertEqual(best_barrier(house, [[0, 0, 0, 1]], (0, 0), most), expected)
        self.assertEqual(best_barrier(house, [[0, 0, 0, 1]], (1, 0), 9), 2)
        for reserve in (3, 4):
            self.assertIsNone(best_barrier(house, [[0, 0, 0, 1]], (reserve, 0), 9))

    def test_against_plain_reckoning(self):
        chooser = random.Random(62)
        told = []
        for seed in range(120):
            house = some_house(seed, chooser.choice([3, 5, 9]))
            plain = Plain(house)
            plan = some_plan(chooser, house)
            state = (chooser.randint(0, 3), chooser.randrange(len(house[0])))
            most = state[0] + chooser.randint(0, 6)
            answer = untouched(self, best_barrier, house, plan, state, most)
            self.assertEqual(answer, self.plainly(plain, plan, state, most), (house, plan, state, most))
            told.append("none" if answer is None else "end" if answer in (state[0], most) else "between")
        self.assertGreater(min(told.count(word) for word in ("none", "end", "between")), 3)

    def test_refused(self):
        for weathers in range(1, 5):
            house = ([(1, [even([0, 2])], SURE)] * weathers, [FREE])
            plan = [[0]] * weathers
            most = 60 // weathers - 1
            for greatest in (0, 5, most, most + 1, HUGE):
                for reserve in (-1, -HUGE, greatest + 1, greatest + 2):
                    refused(self, "OutOfRange", best_barrier, house, plan, (reserve, 0), greatest)
                for weather in (-1, -weathers, weathers, weathers + 1, HUGE):
                    refused(self, "OutOfRange", best_barrier, house, plan, (0, weather), greatest)
            refused(self, "OutOfRange", best_barrier, house, plan, (0, 0), -1)
            refused(self, "OutOfRange", best_barrier, house, plan, (-1, 0), -1)
            self.assertEqual(best_barrier(house, plan, (most, weathers - 1), most), most)
            for greatest in (most + 1, most + 2, 1000, HUGE):
                for reserve in (0, greatest):
                    refused(self, "TooLong", best_barrier, house, plan, (reserve, weathers - 1), greatest)
