"""Dividends: what is paid out above a barrier before ruin, and the best barriers."""

from lastcoffer.chances import fraction, is_less
from lastcoffer.equations import solved
from lastcoffer.errors import OutOfRange, TooLong
from lastcoffer.spans import chosen
from lastcoffer.years import Year

MOST_STATES = 60


class Step:
    """A year with a barrier: whether it may bring ruin, the states to which it may lead, and the dividend.

    The chances of the next states and the mean of the dividend are given by their tops over the
    low of the year.
    """

    def __init__(self, year, plan, barrier, state):
        reserve, weather = state
        change = year.changes[weather][chosen(plan, state)]
        self.falls = change.fall(reserve) > 0
        self.paid = 0
        held = {}
        for value, top in change.parts:
            rest = reserve + value
            if rest > barrier:
                self.paid += (rest - barrier) * top * year.turn_low
                rest = barrier
            if rest >= 0:
                held[rest] = held.get(rest, 0) + top
        self.nexts = {(rest, turn): top * part
                      for rest, top in held.items() for turn, part in year.turns[weather]}


def steps_from(year, plan, barrier, starts):
    """Return the steps of some states and of all states to which they lead, as a dict by states."""
    found = {}
    waiting = list(starts)
    while len(waiting) > 0:
        state = waiting.pop()
        if state not in found:
            found[state] = Step(year, plan, barrier, state)
            waiting.extend(list(found[state].nexts))
    return found


def leading_to(steps, goals):
    """Return the states that are goals or lead to one, as a dict of True."""
    found = {state: True for state in goals}
    many = -1
    while many < len(found):
        many = len(found)
        for state, step in steps.items():
            if any([after in found for after in step.nexts]):
                found[state] = True
    return found


def short_states(steps):
    """Return the short ones of states of which none leads to other states."""
    mortal = leading_to(steps, [state for state, step in steps.items() if step.falls])
    lasting = leading_to(steps, [state for state in steps if state not in mortal])
    return [state for state in steps if state not in lasting]


def yields_of(steps, low):
    """Return the yields of the short states, as a dict by states."""
    shorts = short_states(steps)
    places = {state: place for place, state in enumerate(shorts)}
    equations = []
    for place, state in enumerate(shorts):
        row = [0] * len(shorts)
        row[place] = low
        for after, top in steps[state].nexts.items():
            row[places[after]] -= top
        equations.append(row)
    sides = [[low, steps[state].paid] for state in shorts]
    # Ruin is certain from each short state: so there is exactly one solution.
    bottom, tops = solved(equations, sides)
    return {state: (fraction(years, bottom), fraction(paid, bottom)) for state, (years, paid) in zip(shorts, tops)}


def check_many(house, barrier):
    """Raise TooLong if there are too many states up to a barrier."""
    if (barrier + 1) * len(house[0]) > MOST_STATES:
        raise TooLong("there are more than 60 states")


def yields(house, plan, barrier):
    """Return the yields of all states, by weathers and by reserves."""
    if barrier < 0:
        raise OutOfRange("the barrier is below 0")
    check_many(house, barrier)
    year = Year(house)
    weathers = range(len(house[0]))
    starts = [(reserve, weather) for weather in weathers for reserve in range(barrier + 1)]
    found = yields_of(steps_from(year, plan, barrier, starts), year.low)
    return [[found.get((reserve, weather)) for reserve in range(barrier + 1)] for weather in weathers]


def best_barrier(house, plan, state, most):
    """Return the least barrier up to the greatest one with the greatest mean of all dividends, or None."""
    reserve, weather = state
    if not 0 <= reserve <= most or not 0 <= weather < len(house[0]):
        raise OutOfRange("there is no such state")
    check_many(house, most)
    year = Year(house)
    best = None
    greatest = None
    for barrier in range(reserve, most + 1):
        found = yields_of(steps_from(year, plan, barrier, [state]), year.low)
        if state in found:
            _, paid = found[state]
            if greatest is None or is_less(greatest, paid):
                best = barrier
                greatest = paid
    return best
