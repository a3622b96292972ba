"""Tables: values for all states, as rows and a tail; and the judge of the papers that hold them."""

from lastcoffer.chances import ONE, ZERO, common_low, fraction, is_fraction, is_less, summed, times_power
from lastcoffer.errors import OutOfRange, TooLong
from lastcoffer.houses import change_of
from lastcoffer.spans import chosen
from lastcoffer.years import Change, Year

MOST_RESERVE = 10000
MOST_JUDGED = 5000


def check_table(house, table):
    """Raise OutOfRange if a table is none for a house."""
    rows, scales, q = table
    many = len(house[0])
    if len(rows) != many or len(scales) != many:
        raise OutOfRange("a table has not one row and one scale for each weather")
    for row in rows:
        if len(row) != len(rows[0]):
            raise OutOfRange("the rows of a table have different lengths")
    for item in worths_in(table) + [q]:
        if not is_fraction(item):
            raise OutOfRange("an item of a table is no fraction")
    if not is_between(q):
        raise OutOfRange("the q of a table is not greater than 0 and less than 1")


def worths_in(table):
    """Return the items of the rows and the scales of a table."""
    rows, scales, _ = table
    return [item for row in rows for item in row] + scales


def is_between(item):
    """Tell whether a fraction is greater than 0 and less than 1."""
    return is_less(ZERO, item) and is_less(item, ONE)


def check_reserve(reserve):
    """Raise OutOfRange if a reserve is above 10000."""
    if reserve > MOST_RESERVE:
        raise OutOfRange("the reserve is above 10000")


def value_at(table, reserve, weather):
    """Return the value of a table for a reserve, which may be below 0, and a weather."""
    check_reserve(reserve)
    rows, scales, q = table
    if reserve < 0:
        return ONE
    row = rows[weather]
    if reserve < len(row):
        return row[reserve]
    return times_power(scales[weather], q, reserve - len(row))


def mean_after(house, table, state, treaty):
    """Return the mean of the values at the end of the year."""
    reserve, weather = state
    check_reserve(reserve)
    rows, scales, q = table
    size = len(rows[weather])
    turns = house[0][weather][2]
    spread = change_of(house, weather, treaty)
    change = Change(spread, common_low([spread]))
    # Beyond this reserve the mean is multiplied by q from one reserve to the next.
    settled = min(reserve, size + len(change.falls))
    nexts = [settled + value for value, _ in change.parts]
    row = {at: mean_of(turns, [worths[at] for worths in rows]) for at in nexts if 0 <= at < size}
    tail = times_pair(mean_of(turns, scales), tail_parts(change, q, size, settled, settled)[0])
    top, low = mean_top(change, row, settled, tail)
    return times_power(fraction(top, low * change.low), q, reserve - settled)


def mean_of(turns, worths):
    """Return the mean of the worths of the next weathers."""
    top, low = summed([times_pair(chance, worths[weather]) for weather, chance in turns])
    return fraction(top, low)


def times_pair(first, second):
    """Return the product of two pairs (top, low), which need not be in lowest terms."""
    return (first[0] * second[0], first[1] * second[1])


def mean_top(change, row, reserve, tail):
    """Return the mean of the values after a change, times the low of the change.

    row holds the means of the worths of the next weathers, by reserves; tail is the part of the
    reserves beyond the rows. tail and the answer are pairs, which need not be in lowest terms.
    """
    parts = [(change.fall(reserve), 1)]
    if len(row) > 0:
        for value, top in change.parts:
            if reserve + value in row:
                worth = row[reserve + value]
                parts.append((top * worth[0], worth[1]))
    parts.append(tail)
    return summed(parts)


def tail_parts(change, q, size, first, last):
    """Return a pair for each reserve from first to last: the sum of the tops of the changes
    that lead to at least the reserve size, times the powers of q that belong there.
    """
    tops = dict(change.parts)
    greatest = change.parts[-1][0]
    found = []
    top = 0
    low = 1
    for reserve in range(min(first, size - greatest), last + 1):
        # With one reserve more, the powers grow by one, and one more change leads into the tail.
        if top > 0:
            top = top * q[0]
            low = low * q[1]
        top += tops.get(size - reserve, 0) * low
        if reserve >= first:
            found.append((top, low))
    return found


def means_up_to(year, table, weather, treaty, last):
    """Return the means after the states with the reserves from 0 to last, as pairs."""
    rows, scales, q = table
    size = len(rows[weather])
    turns = [(turn, (top, year.turn_low)) for turn, top in year.turns[weather]]
    row = {at: mean_of(turns, [worths[at] for worths in rows]) for at in range(size)}
    scale = mean_of(turns, scales)
    change = year.changes[weather][treaty]
    found = []
    for reserve, part in enumerate(tail_parts(change, q, size, 0, last)):
        top, low = mean_top(change, row, reserve, times_pair(scale, part))
        found.append((top, low * change.low))
    return found


def values_up_to(table, weather, last):
    """Return the values of the reserves from 0 to last, as pairs."""
    rows, scales, q = table
    found = list(rows[weather])
    worth = scales[weather]
    for _ in range(len(found), last + 1):
        found.append(worth)
        worth = times_pair(worth, q)
    return found


def check_judged(most):
    """Raise TooLong if states with too great reserves would have to be judged."""
    if most > MOST_JUDGED:
        raise TooLong("reserves above 5000 would have to be judged")


def upper_reach(year, paper):
    """Return two reserves of an upper paper; the second one is the greatest one that is judged.

    From the first one on, values and means are multiplied by q from one reserve to the next, as
    long as the treaty stays the same. Raise TooLong if the second one is too great.
    """
    plan, table = paper
    loss = year.greatest_loss()
    size = len(table[0][0])
    most = max([size] + [len(choices) for choices in plan]) + loss
    check_judged(most)
    return size + loss, most


def is_upper(house, paper):
    """Tell whether a plan and a table are an upper paper."""
    plan, table = paper
    year = Year(house)
    settled, most = upper_reach(year, paper)
    if any([is_less(worth, ZERO) for worth in worths_in(table)]):
        return False
    for weather, row in enumerate(year.changes):
        values = values_up_to(table, weather, settled)
        for treaty in range(len(row)):
            reserves = sorted({min(reserve, settled) for reserve in range(most + 1)
                               if chosen(plan, (reserve, weather)) == treaty})
            if len(reserves) == 0:
                continue
            means = means_up_to(year, table, weather, treaty, settled)
            if any([is_less(values[reserve], means[reserve]) for reserve in reserves]):
                return False
    return True


def is_lower(house, paper):
    """Tell whether a fraction and a table are a lower paper."""
    discount, table = paper
    year = Year(house)
    most = len(table[0][0]) + year.greatest_loss()
    check_judged(most)
    if not is_between(discount) or any([is_less(ONE, worth) for worth in worths_in(table)]):
        return False
    for weather, row in enumerate(year.changes):
        values = values_up_to(table, weather, most)
        for treaty in range(len(row)):
            means = means_up_to(year, table, weather, treaty, most)
            if any([is_less(times_pair(discount, mean), value) for mean, value in zip(means, values)]):
                return False
    return True
