"""Ruin within a number of years: the least chance, best treaties, plans and their outlooks."""

from lastcoffer.chances import ZERO, fraction
from lastcoffer.errors import OutOfRange, TooLong
from lastcoffer.years import Year

MOST_YEARS = 60
MOST_RESERVE = 100000
MOST_STATES = 20000


def check_span(house, state, years, fewest):
    """Raise OutOfRange if there is no such state, or the years are too few or too many."""
    reserve, weather = state
    if not 0 <= reserve <= MOST_RESERVE:
        raise OutOfRange("the reserve is not from 0 to 100000")
    if not 0 <= weather < len(house[0]):
        raise OutOfRange("there is no such weather")
    if not fewest <= years <= MOST_YEARS:
        raise OutOfRange("there are too few or too many years")


def least_ruin(house, state, years):
    """Return the least chance of ruin within so many years."""
    check_span(house, state, years, 0)
    if years == 0:
        return ZERO
    risks, low = treaty_risks(house, state, years)
    return fraction(min(risks), low)


def best_treaty(house, state, years):
    """Return the least index of a treaty that attains the least chance of ruin."""
    check_span(house, state, years, 1)
    risks, _ = treaty_risks(house, state, years)
    return risks.index(min(risks))


def treaty_risks(house, state, years):
    """Return the least chance of ruin for each treaty of the first year: the tops, and their low."""
    year = Year(house)
    levels = reached(year, everywhere(year), state, years)
    ahead = [{} for _ in year.turns]
    low = 1
    for masks in reversed(levels[1:]):
        risks = [least_risks(year, weather, reserves_in(mask), ahead[weather], low)
                 for weather, mask in enumerate(masks)]
        ahead = [blended(turns, risks) for turns in year.turns]
        low = low * year.low
    reserve, weather = state
    tops = [risk_by(change, reserve, ahead[weather], low * year.turn_low) for change in year.changes[weather]]
    return tops, low * year.low


def least_risks(year, weather, reserves, ahead, low):
    """Return the least chances of ruin from reserves in a weather, as a dict without those that are 0."""
    sure = low * year.turn_low
    found = {}
    for reserve in reserves:
        risk = min([risk_by(change, reserve, ahead, sure) for change in year.changes[weather]])
        if risk > 0:
            found[reserve] = risk
    return found


def risk_by(change, reserve, ahead, sure):
    """Return the chance of ruin by a change, for the chances ahead of the next reserves, where sure means 1."""
    risk = change.fall(reserve) * sure
    # In the last year nothing is ahead, but there may be many states.
    if len(ahead) > 0:
        risk += sum([top * ahead.get(reserve + value, 0) for value, top in change.parts])
    return risk


def blended(turns, risks):
    """Return the means of the risks of the next weathers, as a dict by reserves."""
    found = {}
    for weather, top in turns:
        for reserve, risk in risks[weather].items():
            found[reserve] = found.get(reserve, 0) + top * risk
    return found


def reached(year, places, state, years):
    """Return the states that can be reached at the beginning of each year: a mask for each weather.

    The bit k of a mask tells of the reserve k. places has such a mask, too, for each
    weather and treaty: of the reserves in which the treaty may be chosen.
    """
    reserve, weather = state
    masks = [0 for _ in year.turns]
    masks[weather] = 1 << reserve
    found = [masks]
    room = MOST_STATES
    for _ in range(years - 1):
        masks = masks_after(year, places, masks)
        room -= sum([len(reserves_in(mask)) for mask in masks])
        if room < 0:
            raise TooLong("more than 20000 states would have to be looked at")
        found.append(masks)
    return found


def masks_after(year, places, masks):
    """Return the masks of the states that can be reached a year later."""
    found = [0 for _ in masks]
    for weather, mask in enumerate(masks):
        moved = 0
        for place, change in zip(places[weather], year.changes[weather]):
            for value, _ in change.parts:
                # A shift to the right drops the reserves that fall below 0.
                moved |= (mask & place) << value if value >= 0 else (mask & place) >> -value
        for turn, _ in year.turns[weather]:
            found[turn] |= moved
    return found


def reserves_in(mask):
    """Return the reserves of a mask, in ascending order."""
    digits = f"{mask:b}"[::-1]
    found = []
    at = digits.find("1")
    while at >= 0:
        found.append(at)
        at = digits.find("1", at + 1)
    return found


def everywhere(year):
    """Return the places of ways, which may choose each treaty in all reserves."""
    return [[-1 for _ in row] for row in year.changes]


def places_of(plan, year):
    """Return the places of a plan: for each weather and treaty the mask of its reserves."""
    found = []
    for choices, row in zip(plan, year.changes):
        masks = [0 for _ in row]
        for reserve, treaty in enumerate(choices[:-1]):
            masks[treaty] |= 1 << reserve
        # All bits from the last item on: -1 is the number in which all bits are set.
        masks[choices[-1]] |= -1 << (len(choices) - 1)
        found.append(masks)
    return found


def check_plan(house, plan):
    """Raise OutOfRange if a list of lists is no plan for a house."""
    weathers, treaties = house
    if len(plan) != len(weathers):
        raise OutOfRange("a plan has not one list for each weather")
    for choices in plan:
        if len(choices) == 0:
            raise OutOfRange("a list of a plan is empty")
        for treaty in choices:
            if not 0 <= treaty < len(treaties):
                raise OutOfRange("a plan chooses a treaty that does not exist")


def chosen(plan, state):
    """Return the treaty that a plan chooses in a state."""
    reserve, weather = state
    choices = plan[weather]
    return choices[min(reserve, len(choices) - 1)]


def plan_ruin(house, plan, state, years):
    """Return the chance of ruin of a plan within so many years."""
    check_span(house, state, years, 0)
    ruined, _, low = followed(house, plan, state, years)
    return fraction(ruined, low)


def outlook(house, plan, state, years):
    """Return the chance of ruin of a plan within so many years, and the chances of the states after them."""
    check_span(house, state, years, 0)
    ruined, held, low = followed(house, plan, state, years)
    states = [(reserve, weather, top) for weather, tops in enumerate(held) for reserve, top in tops.items()]
    rest = [(reserve, weather, fraction(top, low)) for reserve, weather, top in sorted(states)]
    return (fraction(ruined, low), rest)


def followed(house, plan, state, years):
    """Return the top of the chance of ruin, dicts by weathers of those of the reserves, and their low."""
    year = Year(house)
    reached(year, places_of(plan, year), state, years)
    reserve, weather = state
    held = [{} for _ in year.turns]
    held[weather][reserve] = 1
    ruined = 0
    low = 1
    for _ in range(years):
        ruined = ruined * year.low + fallen(year, plan, held) * year.turn_low
        moved = [moved_by(year, plan, start, tops) for start, tops in enumerate(held)]
        held = turned(year, moved)
        low = low * year.low
    return ruined, held, low


def fallen(year, plan, held):
    """Return the top of the chance of ruin in a year that begins with these chances."""
    found = 0
    for weather, tops in enumerate(held):
        for reserve, top in tops.items():
            found += top * year.changes[weather][chosen(plan, (reserve, weather))].fall(reserve)
    return found


def moved_by(year, plan, weather, tops):
    """Return the tops of the reserves that remain after a year in a weather, as a dict."""
    found = {}
    for reserve, top in tops.items():
        change = year.changes[weather][chosen(plan, (reserve, weather))]
        for value, part in change.parts:
            if reserve + value >= 0:
                found[reserve + value] = found.get(reserve + value, 0) + top * part
    return found


def turned(year, moved):
    """Return the tops by the next weathers, for those of the weathers of the year."""
    found = [{} for _ in moved]
    for turns, tops in zip(year.turns, moved):
        for weather, part in turns:
            ahead = found[weather]
            for reserve, top in tops.items():
                ahead[reserve] = ahead.get(reserve, 0) + top * part
    return found
