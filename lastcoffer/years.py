"""A year of a house in integers, which are quicker to add and to multiply than fractions."""

from lastcoffer.chances import common_low, tops_over
from lastcoffer.houses import changes_in


class Change:
    """A change of the reserve, whose chances are given by their tops over a common low."""

    def __init__(self, spread, low):
        self.low = low
        self.parts = tops_over(spread, low)
        self.falls = falls_of(self.parts)

    def fall(self, reserve):
        """Return the top of the chance that a reserve falls below 0."""
        if reserve < len(self.falls):
            return self.falls[reserve]
        return 0


def falls_of(parts):
    """Return the tops of the chances of ruin from the reserves below the greatest loss."""
    tops = dict(parts)
    found = []
    fall = 0
    for loss in range(-parts[0][0], 0, -1):
        fall += tops.get(-loss, 0)
        found.append(fall)
    return found[::-1]


class Year:
    """The changes and turns of a house, each over one low; low is that of a change and a turn together."""

    def __init__(self, house):
        weathers, _ = house
        spreads = [changes_in(house, weather) for weather in range(len(weathers))]
        turns = [weather[2] for weather in weathers]
        change_low = common_low([spread for row in spreads for spread in row])
        self.turn_low = common_low(turns)
        self.low = change_low * self.turn_low
        self.changes = [[Change(spread, change_low) for spread in row] for row in spreads]
        self.turns = [tops_over(spread, self.turn_low) for spread in turns]

    def greatest_loss(self):
        """Return the greatest loss of a year, 0 if there is none."""
        return max([len(change.falls) for row in self.changes for change in row])

    def blend(self, numbers, weather):
        """Return the sum of one number for each weather of the next year, times the tops of the turns to them."""
        return sum([part * numbers[turn] for turn, part in self.turns[weather]])
