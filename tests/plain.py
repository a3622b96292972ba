"""Plain reckoning with Fractions and by going through all cases, and houses to try it on."""

import copy
import random
from fractions import Fraction
from itertools import product

from common import even, pair, read, some_spread

FREE = (0, [])
SURE = [(0, (1, 1))]
# In this house the chance of ruin for ever from the reserve r is exactly (1 / 2) ** (r + 1).
WALK = ([(1, [[(0, (2, 3)), (2, (1, 3))]], SURE)], [FREE])
# Here the reserve never falls, whatever is chosen.
SAFE = ([(7, [], SURE)], [FREE, (7, [])])


def plain_remaining(treaty, x):
    for word, *ends in treaty[1]:
        if word == "share":
            x = -((-x * ends[0][0]) // ends[0][1])
        elif word == "limit":
            x = min(x, ends[0])
        else:
            x = min(x, ends[0]) + max(0, x - ends[1])
    return x


def plain_damage(house, weather):
    """Return a dict of the total damage, by going through all values of the lines."""
    found = {}
    for parts in product(*house[0][weather][1]):
        chance = Fraction(1)
        for _, one in parts:
            chance *= read(one)
        value = sum(value for value, _ in parts)
        found[value] = found.get(value, 0) + chance
    return found


def plain_change(house, weather, treaty):
    found = {}
    for value, chance in plain_damage(house, weather).items():
        gain = house[0][weather][0] - house[1][treaty][0] - plain_remaining(house[1][treaty], value)
        found[gain] = found.get(gain, 0) + chance
    return found


class Plain:
    """A house whose changes and turns are kept as dicts of Fractions."""

    def __init__(self, house):
        self.weathers = range(len(house[0]))
        self.treaties = range(len(house[1]))
        self.changes = {(w, t): plain_change(house, w, t) for w in self.weathers for t in self.treaties}
        self.turns = [{u: read(chance) for u, chance in weather[2]} for weather in house[0]]
        self.loss = max([0] + [-value for change in self.changes.values() for value in change])
        self.known = {}

    def steps(self, state, treaty):
        """Return the states (or None for ruin) to which a year leads, with their chances."""
        reserve, weather = state
        found = []
        for value, chance in self.changes[weather, treaty].items():
            if reserve + value < 0:
                found.append((None, chance))
            else:
                for turn, share in self.turns[weather].items():
                    found.append(((reserve + value, turn), chance * share))
        return found

    def risk(self, state, treaty, years):
        """Return the chance of ruin with a treaty now, and the best choices later."""
        return sum(chance * self.least(after, years - 1) for after, chance in self.steps(state, treaty))

    def least(self, state, years):
        if state is None:
            return Fraction(1)
        if years == 0:
            return Fraction(0)
        if (state, years) not in self.known:
            self.known[state, years] = min(self.risk(state, treaty, years) for treaty in self.treaties)
        return self.known[state, years]

    def outlook(self, choose, state, years):
        """Return the chance of ruin and a dict, where choose(state, years left) gives the treaty."""
        held, ruined = {state: Fraction(1)}, Fraction(0)
        for left in range(years, 0, -1):
            ahead = {}
            for now, chance in held.items():
                for after, part in self.steps(now, choose(now, left)):
                    ahead[after] = ahead.get(after, 0) + chance * part
            ruined += ahead.pop(None, 0)
            held = ahead
        return ruined, held

    def counted(self, choices, state, years):
        """Count the states of point 13, where choices(state) gives the treaties that may be chosen."""
        level, many = {state}, 0
        for _ in range(years - 1):
            level = {after for now in level for treaty in choices(now)
                     for after, _ in self.steps(now, treaty) if after is not None}
            many += len(level)
        return many

    def mean(self, table, state, treaty):
        return sum(chance * (1 if after is None else plain_value(table, *after))
                   for after, chance in self.steps(state, treaty))

    def is_upper(self, paper, beyond=7):
        """Judge by looking at some more reserves than the document asks for."""
        plan, table = paper
        last = max([len(table[0][0])] + [len(choices) for choices in plan]) + self.loss + beyond
        return all(plain_value(table, r, w) >= max(0, self.mean(table, (r, w), plain_chosen(plan, (r, w))))
                   for r in range(last + 1) for w in self.weathers)

    def is_lower(self, paper, beyond=7):
        d, table = read(paper[0]), paper[1]
        states = [(r, w) for r in range(len(table[0][0]) + self.loss + beyond + 1) for w in self.weathers]
        return 0 < d < 1 and all(plain_value(table, *state) <= min(1, d * self.mean(table, state, treaty))
                                 for state in states for treaty in self.treaties)


def plain_chosen(plan, state):
    choices = plan[state[1]]
    return choices[state[0]] if state[0] < len(choices) else choices[-1]


def plain_value(table, reserve, weather):
    rows, scales, q = table
    if reserve < 0:
        return Fraction(1)
    if reserve < len(rows[weather]):
        return read(rows[weather][reserve])
    return read(scales[weather]) * read(q) ** (reserve - len(rows[weather]))


def some_layers(chooser):
    kinds = [("share", (1, 2)), ("share", (2, 3)), ("limit", chooser.randint(0, 5)), ("band", 1, chooser.randint(1, 6)),
             ("share", (0, 1))]
    return [chooser.choice(kinds) for _ in range(chooser.choice([0, 1, 1, 2]))]


def some_house(seed, most=8):
    """Return a house with small damages; the same seed gives the same one."""
    chooser = random.Random(seed)
    many = 1 + seed % 3
    weathers = []
    for weather in range(many):
        lines = [some_spread(chooser.random(), chooser.randint(1, 3), 0, most)
                 for _ in range(chooser.choice([0, 1, 1, 1, 2, 2, 3]))]
        turns = some_spread(chooser.random(), chooser.randint(1, many), 0, many - 1)
        weathers.append((chooser.randint(0, 6), lines, turns))
    treaties = [(chooser.randint(0, 3), some_layers(chooser)) for _ in range(1 + seed // 3 % 4)]
    return (weathers, treaties)


def some_plan(chooser, house, most=6):
    return [[chooser.randrange(len(house[1])) for _ in range(chooser.randint(1, most))] for _ in house[0]]


def some_table(chooser, house, size, tops=(-5, 9)):
    def item():
        return pair(Fraction(chooser.randint(*tops), chooser.randint(1, 7)))
    low = chooser.randint(2, 9)
    return ([[item() for _ in range(size)] for _ in house[0]], [item() for _ in house[0]],
            pair(Fraction(chooser.randint(1, low - 1), low)))


def large_house(most):
    """Return a house with four weathers and changes that take all values from -most to 0, with 180 < most < 360."""
    lines = [even(range(30)), even(range(0, 180, 30)), even([0, most - 179])]
    return ([(0, lines, even(range(4))) for _ in range(4)], [FREE])


def plainly_solved(rows):
    """Solve equations with their right sides behind them; None if there is not exactly one solution."""
    many = len(rows)
    rows = [[Fraction(part) for part in row] for row in rows]
    for k in range(many):
        pivot = next((row for row in rows[k:] if row[k] != 0), None)
        if pivot is None:
            return None
        rows.remove(pivot)
        rows.insert(k, [part / pivot[k] for part in pivot])
        rows = [row if at == k else [a - row[k] * b for a, b in zip(row, rows[k])] for at, row in enumerate(rows)]
    return [row[many:] for row in rows]


def solution(plain, treaties, q):
    """Solve the equations c(w) = 1 + W(w) * sum of turns * c(u); None if it is not greater than 0."""
    many = len(plain.weathers)
    weights = [sum(chance * q ** value for value, chance in plain.changes[w, treaties[w]].items()) for w in range(many)]
    found = plainly_solved([[(w == u) - weights[w] * plain.turns[w].get(u, 0) for u in range(many)] + [1]
                            for w in range(many)])
    if found is None or min(found) <= [0]:
        return None
    return [c / min(found)[0] for c, in found]


def rounded(worth, grain, up):
    top = worth * grain
    return Fraction(-(-top.numerator // top.denominator) if up else top.numerator // top.denominator, grain)


def found_upper(plain, treaties, q, size, rounds, grain=1000):
    """Return an upper paper by the way of the points 19 and 20, or None."""
    tail = solution(plain, treaties, q)
    if tail is None:
        return None
    plan = [[treaty] for treaty in treaties]
    rows = [[c * q ** k for k in range(size)] for c in tail]
    for _ in range(rounds):
        table = as_table(rows, [c * q ** size for c in tail], q)
        rows = [[min(rows[w][r], rounded(plain.mean(table, (r, w), treaties[w]), grain, True)) for r in range(size)]
                for w in plain.weathers]
    return (plan, as_table(rows, [c * q ** size for c in tail], q))


def found_lower(plain, d, q, size, rounds, grain=1000):
    """Return a lower paper by the way of the point 21."""
    rows = [[Fraction(0)] * size for _ in plain.weathers]
    scales = [Fraction(0)] * len(rows)
    for _ in range(rounds):
        table = as_table(rows, scales, q)
        rows = [[max(rows[w][r], rounded(d * min(plain.mean(table, (r, w), t) for t in plain.treaties), grain, False))
                 for r in range(size)] for w in plain.weathers]
    return (pair(d), as_table(rows, scales, q))


def as_table(rows, scales, q):
    return ([[pair(item) for item in row] for row in rows], [pair(c) for c in scales], pair(q))


def changed(table, weather, place, worth):
    """Return a table with another item; the place behind the row is the scale."""
    rows, scales, q = copy.deepcopy(table)
    if place == len(rows[weather]):
        scales[weather] = worth
    else:
        rows[weather][place] = worth
    return (rows, scales, q)


def moved_by(table, weather, place, by):
    rows, scales, _ = table
    worth = [*rows[weather], scales[weather]][place]
    return changed(table, weather, place, pair(read(worth) + by))
