"""Ruin within a number of years: the least chance, best treaties, plans and their outlooks."""

from lastcoffer.chances import ZERO, fraction
from lastcoffer.errors import OutOfRange, TooLong
from lastcoffer.years import Year

MOST_YEARS = 60
MOST_RESERVE = 100000
MOST_STATES = 20000
# So many reserves are looked at together.
BLOCK = 1024


def check_span(house, state, years, fewest):
    """Raise OutOfRange if there is no such state, or the years are too few or too many."""
    reserve, weather = state
    if not 0 <= reserve <= MOST_RESERVE:
        raise OutOfRange("the reserve is not from 0 to 100000")
    if not 0 <= weather < len(house[0]):
        raise OutOfRange("there is no such weather")
    if not fewest <= years <= MOST_YEARS:
        raise OutOfRange("there are too few or too many years")


def least_ruin(house, state, years):
    """Return the least chance of ruin within so many years."""
    check_span(house, state, years, 0)
    if years == 0:
        return ZERO
    risks, low = treaty_risks(house, state, years)
    return fraction(min(risks), low)


def best_treaty(house, state, years):
    """Return the least index of a treaty that attains the least chance of ruin."""
    check_span(house, state, years, 1)
    risks, _ = treaty_risks(house, state, years)
    return risks.index(min(risks))


def treaty_risks(house, state, years):
    """Return the least chance of ruin for each treaty of the first year: the tops, and their low."""
    year = Year(house)
    levels = reached(year, AnyWay(year), state, years)
    ahead = [{} for _ in year.turns]
    low = 1
    for blocks in reversed(levels[1:]):
        risks = [least_risks(year, weather, reserves_in(masks), ahead[weather], low)
                 for weather, masks in enumerate(blocks)]
        ahead = [blended(turns, risks) for turns in year.turns]
        low = low * year.low
    reserve, weather = state
    tops = [risk_by(change, reserve, ahead[weather], low * year.turn_low) for change in year.changes[weather]]
    return tops, low * year.low


def least_risks(year, weather, reserves, ahead, low):
    """Return the least chances of ruin from reserves in a weather, as a dict without those that are 0."""
    sure = low * year.turn_low
    found = {}
    for reserve in reserves:
        risk = min([risk_by(change, reserve, ahead, sure) for change in year.changes[weather]])
        if risk > 0:
            found[reserve] = risk
    return found


def risk_by(change, reserve, ahead, sure):
    """Return the chance of ruin by a change, for the chances ahead of the next reserves, where sure means 1."""
    risk = change.fall(reserve) * sure
    # In the last year nothing is ahead, but there may be many states.
    if len(ahead) > 0:
        risk += sum([top * ahead.get(reserve + value, 0) for value, top in change.parts])
    return risk


def blended(turns, risks):
    """Return the means of the risks of the next weathers, as a dict by reserves."""
    found = {}
    for weather, top in turns:
        for reserve, risk in risks[weather].items():
            found[reserve] = found.get(reserve, 0) + top * risk
    return found


class AnyWay:
    """What may follow the states of a house, whatever is chosen."""

    def __init__(self, year):
        self.gains = [sorted({value for change in row for value, _ in change.parts}) for row in year.changes]

    def branches(self, weather, _, mask):
        """Return masks of the states of a block, each one with the values of the changes that may follow."""
        return [(mask, self.gains[weather])]


class PlanWay:
    """What may follow the states of a house by a plan."""

    def __init__(self, year, plan):
        self.gains = [[[value for value, _ in change.parts] for change in row] for row in year.changes]
        self.plan = plan

    def branches(self, weather, block, mask):
        """Return masks of the states of a block, each one with the values of the changes that may follow."""
        start = block * BLOCK
        masks = {}
        if start + 1 >= len(self.plan[weather]):
            # All reserves from here on have the last treaty of the list.
            masks[self.plan[weather][-1]] = mask
        else:
            for place in bits_of(mask):
                treaty = chosen(self.plan, (start + place, weather))
                masks[treaty] = masks.get(treaty, 0) | (1 << place)
        return [(part, self.gains[weather][treaty]) for treaty, part in masks.items()]


def reached(year, way, state, years):
    """Return the states that can be reached at the beginning of each year: a dict of blocks for each weather.

    A block has a number and a mask, whose bits tell which ones of its reserves are reached. So
    states that are close to each other are looked at together, and those between distant ones not
    at all.
    """
    reserve, weather = state
    blocks = [{} for _ in year.turns]
    blocks[weather][reserve // BLOCK] = 1 << (reserve % BLOCK)
    found = [blocks]
    room = MOST_STATES
    for _ in range(years - 1):
        blocks = blocks_after(year, way, blocks)
        room -= sum([len(reserves_in(masks)) for masks in blocks])
        if room < 0:
            raise TooLong("more than 20000 states would have to be looked at")
        found.append(blocks)
    return found


def blocks_after(year, way, blocks):
    """Return the blocks of the states that can be reached a year later."""
    found = [{} for _ in blocks]
    for weather, masks in enumerate(blocks):
        moved = {}
        for block, mask in masks.items():
            for part, values in way.branches(weather, block, mask):
                for value in values:
                    add_moved(moved, block * BLOCK + value, part)
        for turn, _ in year.turns[weather]:
            for block, mask in moved.items():
                found[turn][block] = found[turn].get(block, 0) | mask
    return found


def add_moved(masks, start, mask):
    """Add reserves to the masks of blocks: the first bit of a mask tells of the reserve start.

    Those below 0 are left out.
    """
    wide = mask << (start % BLOCK)
    above = wide >> BLOCK
    block = start // BLOCK
    for at, part in ((block, wide ^ (above << BLOCK)), (block + 1, above)):
        if at >= 0 and part > 0:
            masks[at] = masks.get(at, 0) | part


def reserves_in(masks):
    """Return the reserves in the masks of blocks, in ascending order."""
    return [block * BLOCK + place for block in sorted(masks) for place in bits_of(masks[block])]


def bits_of(mask):
    """Return the places of the bits of a mask, in ascending order."""
    digits = f"{mask:b}"[::-1]
    found = []
    at = digits.find("1")
    while at >= 0:
        found.append(at)
        at = digits.find("1", at + 1)
    return found


def check_plan(house, plan):
    """Raise OutOfRange if a list of lists is no plan for a house."""
    weathers, treaties = house
    if len(plan) != len(weathers):
        raise OutOfRange("a plan has not one list for each weather")
    for choices in plan:
        if len(choices) == 0:
            raise OutOfRange("a list of a plan is empty")
        for treaty in choices:
            if not 0 <= treaty < len(treaties):
                raise OutOfRange("a plan chooses a treaty that does not exist")


def chosen(plan, state):
    """Return the treaty that a plan chooses in a state."""
    reserve, weather = state
    choices = plan[weather]
    return choices[min(reserve, len(choices) - 1)]


def plan_ruin(house, plan, state, years):
    """Return the chance of ruin of a plan within so many years."""
    check_span(house, state, years, 0)
    ruined, _, low = followed(house, plan, state, years)
    return fraction(ruined, low)


def outlook(house, plan, state, years):
    """Return the chance of ruin of a plan within so many years, and the chances of the states after them."""
    check_span(house, state, years, 0)
    ruined, held, low = followed(house, plan, state, years)
    states = [(reserve, weather, top) for weather, tops in enumerate(held) for reserve, top in tops.items()]
    rest = [(reserve, weather, fraction(top, low)) for reserve, weather, top in sorted(states)]
    return (fraction(ruined, low), rest)


def followed(house, plan, state, years):
    """Return the top of the chance of ruin, dicts by weathers of those of the reserves, and their low."""
    year = Year(house)
    reached(year, PlanWay(year, plan), state, years)
    reserve, weather = state
    held = [{} for _ in year.turns]
    held[weather][reserve] = 1
    ruined = 0
    low = 1
    for _ in range(years):
        ruined = ruined * year.low + fallen(year, plan, held) * year.turn_low
        moved = [moved_by(year, plan, start, tops) for start, tops in enumerate(held)]
        held = turned(year, moved)
        low = low * year.low
    return ruined, held, low


def fallen(year, plan, held):
    """Return the top of the chance of ruin in a year that begins with these chances."""
    found = 0
    for weather, tops in enumerate(held):
        for reserve, top in tops.items():
            found += top * year.changes[weather][chosen(plan, (reserve, weather))].fall(reserve)
    return found


def moved_by(year, plan, weather, tops):
    """Return the tops of the reserves that remain after a year in a weather, as a dict."""
    found = {}
    for reserve, top in tops.items():
        change = year.changes[weather][chosen(plan, (reserve, weather))]
        for value, part in change.parts:
            if reserve + value >= 0:
                found[reserve + value] = found.get(reserve + value, 0) + top * part
    return found


def turned(year, moved):
    """Return the tops by the next weathers, for those of the weathers of the year."""
    found = [{} for _ in moved]
    for turns, tops in zip(year.turns, moved):
        for weather, part in turns:
            ahead = found[weather]
            for reserve, top in tops.items():
                ahead[reserve] = ahead.get(reserve, 0) + top * part
    return found
