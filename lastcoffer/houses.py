"""Houses: weathers with their premiums and damages, treaties, and the changes of the reserve."""

from lastcoffer.chances import ONE, check_spread, shifted, sum_of
from lastcoffer.damages import after_treaty, check_damage, check_treaty, is_amount
from lastcoffer.errors import BadHouse, BadSpread, OutOfRange

MOST_WEATHERS = 4
MOST_TREATIES = 4
MOST_LINES = 3


def check_house(house):
    """Raise BadHouse if a house is not valid."""
    weathers, treaties = house
    if not 1 <= len(weathers) <= MOST_WEATHERS:
        raise BadHouse("there are not 1 to 4 weathers")
    if not 1 <= len(treaties) <= MOST_TREATIES:
        raise BadHouse("there are not 1 to 4 treaties")
    for weather in weathers:
        check_weather(weather, len(weathers))
    for treaty in treaties:
        check_treaty(treaty)


def check_weather(weather, many):
    """Raise BadHouse if a weather is not valid in a house with so many weathers."""
    premium, lines, turns = weather
    if not is_amount(premium):
        raise BadHouse("a premium is not from 0 to 1000")
    if len(lines) > MOST_LINES:
        raise BadHouse("a weather has too many lines")
    for line in lines:
        check_damage(line)
    check_turns(turns, many)


def check_turns(turns, many):
    """Raise BadHouse if the turns are no spread of indexes below a number."""
    try:
        check_spread(turns)
    except BadSpread:
        raise BadHouse("the turns of a weather are no spread") from None
    for value, _ in turns:
        if not 0 <= value < many:
            raise BadHouse("a weather turns to one that does not exist")


def check_index(index, items):
    """Raise OutOfRange if a list has no item with an index."""
    if not 0 <= index < len(items):
        raise OutOfRange("there is no such weather or treaty")


def total_damage(house, weather):
    """Return the spread of the sum of the damages of a weather."""
    weathers, _ = house
    check_index(weather, weathers)
    _, lines, _ = weathers[weather]
    found = [(0, ONE)]
    for line in lines:
        found = sum_of(found, line)
    return found


def change_by(premium, treaty, damage):
    """Return the spread of the change of the reserve, for the spread of the damage before the treaty."""
    price, _ = treaty
    losses = after_treaty(treaty, damage)
    gains = [(-loss, chance) for loss, chance in reversed(losses)]
    return shifted(gains, premium - price)


def change_of(house, weather, treaty):
    """Return the change of a weather and a treaty."""
    weathers, treaties = house
    check_index(weather, weathers)
    check_index(treaty, treaties)
    return change_by(weathers[weather][0], treaties[treaty], total_damage(house, weather))


def changes_in(house, weather):
    """Return the changes of a weather and each of the treaties."""
    weathers, treaties = house
    damage = total_damage(house, weather)
    return [change_by(weathers[weather][0], treaty, damage) for treaty in treaties]
