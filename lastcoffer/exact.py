"""The exact chance of ruin for ever, for changes that are the same in each year and gain at most 1."""

from lastcoffer.chances import ONE, ZERO, common_low, fraction, is_less, mean, minus, tops_over
from lastcoffer.errors import OutOfRange, TooLong

MOST_RESERVE = 200


class Survival:
    """The chances that the reserves are never ruined, for a spread with a mean above 0 and no value above 1.

    The chance with the reserve r is given by its top over gain to the power of r + 1.
    """

    def __init__(self, spread):
        self.low = common_low([spread])
        self.parts = dict(tops_over(spread, self.low))
        self.gain = self.parts[1]
        self.tops = [sum([value * top for value, top in self.parts.items()])]
        self.lows = [self.gain]

    def chance(self, reserve):
        """Return the chance with a reserve, as a pair (top, low) that need not be in lowest terms."""
        while len(self.tops) <= reserve:
            self.tops.append(self.next_top())
            self.lows.append(self.lows[-1] * self.gain)
        return (self.tops[reserve], self.lows[reserve])

    def next_top(self):
        """Return the top of the chance with the next reserve."""
        last = len(self.tops) - 1
        held = 0
        for loss in range(last, -1, -1):
            held = held * self.gain + self.parts.get(-loss, 0) * self.tops[last - loss]
        return self.low * self.tops[last] - held


def is_still(spread):
    """Tell whether the change is always 0."""
    return spread == [(0, ONE)]


def is_certain(spread):
    """Tell whether ruin is certain."""
    return not is_less(ZERO, mean(spread)) and not is_still(spread)


def check_gains(spread):
    """Raise OutOfRange if the mean is greater than 0 and a value is greater than 1."""
    if is_less(ZERO, mean(spread)) and spread[-1][0] > 1:
        raise OutOfRange("the mean is greater than 0, and a value is greater than 1")


def exact_ruin(spread, reserve):
    """Return the chance of ruin for ever with a reserve."""
    if not 0 <= reserve <= MOST_RESERVE:
        raise OutOfRange("the reserve is not from 0 to 200")
    check_gains(spread)
    if is_still(spread):
        return ZERO
    if is_certain(spread):
        return ONE
    top, low = Survival(spread).chance(reserve)
    return fraction(low - top, low)


def least_reserve(spread, bound):
    """Return the least reserve from 0 to 200 with which the chance of ruin for ever is at most a fraction."""
    check_gains(spread)
    if is_still(spread) or is_certain(spread):
        # The chance is the same with all reserves.
        if is_less(bound, exact_ruin(spread, 0)):
            raise TooLong("no reserve has so small a chance of ruin")
        return 0
    survival = Survival(spread)
    least = minus(ONE, bound)
    for reserve in range(MOST_RESERVE + 1):
        if not is_less(survival.chance(reserve), least):
            return reserve
    raise TooLong("no reserve from 0 to 200 has so small a chance of ruin")
