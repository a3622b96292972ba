"""The search for the rows of an upper paper."""

from lastcoffer.chances import common_low_of, fraction, integer_power
from lastcoffer.packs import Slide, digit_width, packed
from lastcoffer.tables import tail_parts


def rounded_up(top, low):
    """Return the least integer that is at least top / low."""
    return -(-top // low)


def first_rows(scales, q, size, reach):
    """Return the rows of the first table, by their tops over a common low, and this low.

    The low is enough for the values of all reserves up to reach.
    """
    low = common_low_of(scales)
    tops = [scale[0] * (low // scale[1]) for scale in scales]
    rows = [[] for _ in scales]
    for _ in range(size):
        for weather, row in enumerate(rows):
            row.append(tops[weather] * integer_power(q[1], reach - len(row)))
            tops[weather] = tops[weather] * q[0]
    return rows, low * integer_power(q[1], reach)


class Upper:
    """The rows of an upper paper that is being found.

    An item that has become less in a round is a multiple of 1 / grain. The other ones are still
    those of the first table, and so are all values beyond the rows. The sums over these first
    values are kept exactly and seldom change; a round needs them only rounded up.
    """

    def __init__(self, year, changes, scales, *, q, size, grain):
        self.year = year
        self.changes = changes
        self.size = size
        self.grain = grain
        reach = size + max([0] + [change.parts[-1][0] for change in changes])
        self.firsts, self.low = first_rows(scales, q, size, reach)
        # The least integers that are at least the items times the grain.
        self.leasts = [[rounded_up(top * grain, self.low) for top in row] for row in self.firsts]
        # The items times the grain, or 0 for those of the first table: no item is 0.
        self.tops = [[0] * size for _ in scales]
        self.width = digit_width(year.low * max([0] + [top for row in self.leasts for top in row]))
        self.slides = [Slide(change, size, self.width) for change in changes]
        self.exact = [self.first_sums(weather, q) for weather in range(len(changes))]
        self.rest = [[rounded_up(top, self.low) for top in row] for row in self.exact]

    def first_sums(self, weather, q):
        """Return what the first values add to the means after the reserves: its tops over self.low.

        Here, as in a round, the means are times year.low and the grain.
        """
        if self.size == 0:
            return []
        worth = self.year.blend([row[0] for row in self.firsts], weather) * self.grain
        parts = tail_parts(self.changes[weather], q, 0, 0, self.size - 1)
        return [worth // low * top for top, low in parts]

    def lessen(self):
        """Do a round: replace all items at once. Tell whether one became less."""
        packs = [packed(row, self.width) for row in self.tops]
        means = [self.rounded_means(packs, weather) for weather in range(len(self.tops))]
        lost = [[0] * self.size for _ in self.tops]
        lessened = False
        for weather, row in enumerate(means):
            for reserve, top in enumerate(row):
                if top < self.leasts[weather][reserve]:
                    lessened = True
                    if self.tops[weather][reserve] == 0:
                        lost[weather][reserve] = self.firsts[weather][reserve]
                    self.tops[weather][reserve] = top
                    self.leasts[weather][reserve] = top
        for weather in range(len(self.tops)):
            self.forget(lost, weather)
        return lessened

    def rounded_means(self, packs, weather):
        """Return the means after the reserves, times the grain and rounded up."""
        change = self.changes[weather]
        ruin = self.grain * self.year.turn_low
        sums = self.slides[weather].sums(self.year.blend(packs, weather))
        # What the first values add may be rounded first, since all the rest is an integer.
        return [rounded_up(change.fall(reserve) * ruin + top + more, self.year.low)
                for reserve, (top, more) in enumerate(zip(sums, self.rest[weather]))]

    def forget(self, lost, weather):
        """Take the lost first values, 0 where none is lost, from what they add to the means."""
        exact = self.exact[weather]
        touched = {}
        for place in range(self.size):
            worth = self.year.blend([row[place] for row in lost], weather) * self.grain
            if worth == 0:
                continue
            for value, top in self.changes[weather].parts:
                if 0 <= place - value < self.size:
                    exact[place - value] -= top * worth
                    touched[place - value] = True
        for reserve in touched:
            self.rest[weather][reserve] = rounded_up(exact[reserve], self.low)

    def fractions(self):
        """Return the rows."""
        found = []
        for row, firsts in zip(self.tops, self.firsts):
            found.append([fraction(top, self.grain) if top > 0 else fraction(first, self.low)
                          for top, first in zip(row, firsts)])
        return found
