"""Papers that are found: tails, upper and lower papers, and better plans."""

from lastcoffer.chances import ONE, ZERO, common_low, fraction, is_less, over, power, times_power
from lastcoffer.equations import solved
from lastcoffer.errors import OutOfRange
from lastcoffer.packs import Slide, digit_width, packed
from lastcoffer.spans import check_plan, chosen
from lastcoffer.tables import is_between, means_up_to, tail_parts, upper_reach
from lastcoffer.uppers import Upper
from lastcoffer.years import Change, Year

MOST_SIZE = 400
MOST_GRAIN = 1000000000
MOST_ROUNDS = 200


def weight(spread, q):
    """Return the sum of the chances of the values times the powers of q with these exponents."""
    return weight_of(Change(spread, common_low([spread])), q)


def weight_of(change, q):
    """Return the weight of a change that is given in integers."""
    least, _ = change.parts[0]
    # Seen from the least value on, all exponents are at least 0.
    top, low = tail_parts(change, q, least, 0, 0)[0]
    base = q if least >= 0 else over(ONE, q)
    more, less = power(base, abs(least))
    return fraction(top * more, low * change.low * less)


def check_treaties(house, treaties):
    """Raise OutOfRange if a list is not one of one treaty for each weather."""
    check_plan(house, [[treaty] for treaty in treaties])


def check_ratio(ratio):
    """Raise OutOfRange if a fraction is not greater than 0 and less than 1."""
    if not is_between(ratio):
        raise OutOfRange("a fraction is not greater than 0 and less than 1")


def check_search(size, grain, rounds):
    """Raise OutOfRange if a number that bounds a search is too small or too great."""
    if not 0 <= size <= MOST_SIZE:
        raise OutOfRange("the size is not from 0 to 400")
    if not 1 <= grain <= MOST_GRAIN:
        raise OutOfRange("the grain is not from 1 to 1000000000")
    if not 0 <= rounds <= MOST_ROUNDS:
        raise OutOfRange("the rounds are not from 0 to 200")


def tail(house, treaties, q):
    """Return the tail of the plan that chooses one treaty for each weather, or None."""
    check_treaties(house, treaties)
    check_ratio(q)
    return tail_in(Year(house), treaties, q)


def tail_in(year, treaties, q):
    """Return the tail for a year of a house, or None."""
    many = len(year.turns)
    equations = []
    sides = []
    for weather, treaty in enumerate(treaties):
        top, low = weight_of(year.changes[weather][treaty], q)
        sure = low * year.turn_low
        row = [0] * many
        row[weather] = sure
        for turn, part in year.turns[weather]:
            row[turn] -= top * part
        equations.append(row)
        sides.append([sure])
    return scaled(solved(equations, sides))


def scaled(answer):
    """Return solutions divided by the least one, or None if there are none or one is not greater than 0."""
    if answer is None:
        return None
    low, rows = answer
    tops = [row[0] if low > 0 else -row[0] for row in rows]
    if min(tops) <= 0:
        return None
    return [fraction(top, min(tops)) for top in tops]


def find_upper(house, treaties, *, size, q, grain, rounds):
    """Return the upper paper that is found for a plan that chooses one treaty for each weather, or None."""
    check_treaties(house, treaties)
    check_ratio(q)
    check_search(size, grain, rounds)
    year = Year(house)
    scales = tail_in(year, treaties, q)
    if scales is None:
        return None
    changes = [row[treaty] for row, treaty in zip(year.changes, treaties)]
    upper = Upper(year, changes, scales, q=q, size=size, grain=grain)
    for _ in range(rounds):
        # Once nothing becomes less, the further rounds change nothing either.
        if not upper.lessen():
            break
    lasts = [times_power(scale, q, size) for scale in scales]
    return ([[treaty] for treaty in treaties], (upper.fractions(), lasts, q))


def find_lower(house, *, discount, size, q, grain, rounds):
    """Return the lower paper that is found."""
    check_ratio(discount)
    check_ratio(q)
    check_search(size, grain, rounds)
    year = Year(house)
    width = digit_width(year.low * grain)
    slides = [[Slide(change, size, width) for change in row] for row in year.changes]
    rows = [[0] * size for _ in year.turns]
    for _ in range(rounds):
        packs = [packed(row, width) for row in rows]
        leasts = [least_means(year, slides, packs, weather, grain) for weather in range(len(rows))]
        higher = [raised(row, means, discount, year.low) for row, means in zip(rows, leasts)]
        # Once nothing becomes greater, the further rounds change nothing either.
        if higher == rows:
            break
        rows = higher
    items = [[fraction(top, grain) for top in row] for row in rows]
    return (discount, (items, [ZERO for _ in rows], q))


def least_means(year, slides, packs, weather, grain):
    """Return for each reserve of the rows the least mean after it and a treaty: its top over year.low times the grain.

    The items of the rows are packed by their tops over the grain, and beyond the rows all values are 0.
    """
    blend = year.blend(packs, weather)
    ruin = grain * year.turn_low
    columns = []
    for change, slide in zip(year.changes[weather], slides[weather]):
        columns.append([change.fall(reserve) * ruin + top for reserve, top in enumerate(slide.sums(blend))])
    return [min(tops) for tops in zip(*columns)]


def raised(row, means, discount, low):
    """Return the tops of a row after a round: the greater ones of the items and the rounded means."""
    top, bottom = discount
    return [max(item, mean * top // (low * bottom)) for item, mean in zip(row, means)]


def better_plan(house, paper):
    """Return the better plan of an upper paper."""
    plan, table = paper
    year = Year(house)
    settled, most = upper_reach(year, paper)
    # From settled on, the means of all treaties are multiplied by q from one reserve to the next.
    last = min(settled, most - 1)
    found = []
    for weather, row in enumerate(year.changes):
        columns = [means_up_to(year, table, weather, treaty, last) for treaty in range(len(row))]
        best = [least_at(means) for means in zip(*columns)]
        rest = [best[-1]] * (most - len(best))
        found.append(best + rest + [chosen(plan, (most, weather))])
    return found


def least_at(pairs):
    """Return the first index of the least one of some pairs (top, low)."""
    best = 0
    for k in range(1, len(pairs)):
        if is_less(pairs[k], pairs[best]):
            best = k
    return best
