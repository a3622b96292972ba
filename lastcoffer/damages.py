"""Damages, and the treaties by which others bear a part of them."""

from lastcoffer.chances import check_spread, gathered, is_fraction
from lastcoffer.errors import BadHouse, BadSpread

MOST_AMOUNT = 1000
MOST_VALUES = 30
MOST_LAYERS = 4


def is_amount(part):
    """Tell whether a part of a treaty is an integer from 0 to 1000."""
    return isinstance(part, int) and 0 <= part <= MOST_AMOUNT


def is_share(part):
    """Tell whether a part of a layer is a fraction from 0 to 1."""
    return isinstance(part, tuple) and is_fraction(part) and 0 <= part[0] <= part[1]


def check_damage(spread):
    """Raise BadHouse if a list is no damage."""
    try:
        check_spread(spread)
    except BadSpread:
        raise BadHouse("a damage is no spread") from None
    if len(spread) > MOST_VALUES:
        raise BadHouse("a damage has too many values")
    for value, _ in spread:
        if not is_amount(value):
            raise BadHouse("a value of a damage is not from 0 to 1000")


def check_treaty(treaty):
    """Raise BadHouse if a treaty is not valid."""
    price, layers = treaty
    if not is_amount(price):
        raise BadHouse("the price of a treaty is not from 0 to 1000")
    if len(layers) > MOST_LAYERS:
        raise BadHouse("a treaty has too many layers")
    for layer in layers:
        if not is_layer(layer):
            raise BadHouse("a layer is no share, limit or band")


def is_layer(layer):
    """Tell whether a tuple that begins with a string is a layer."""
    word = layer[0]
    parts = layer[1:]
    if word == "share":
        return len(parts) == 1 and is_share(parts[0])
    if word == "limit":
        return len(parts) == 1 and is_amount(parts[0])
    if word == "band":
        return len(parts) == 2 and is_amount(parts[0]) and is_amount(parts[1]) and parts[0] <= parts[1]
    return False


def after_layer(layer, amount):
    """Return what remains of an amount after one layer."""
    word = layer[0]
    if word == "share":
        top, low = layer[1]
        # Both signs are turned, since // rounds down and a share is rounded up.
        return -(-amount * top // low)
    if word == "limit":
        return min(amount, layer[1])
    return amount - (min(amount, layer[2]) - min(amount, layer[1]))


def remaining(treaty, amount):
    """Return what remains of an amount after the layers, one after the other."""
    rest = amount
    for layer in treaty[1]:
        rest = after_layer(layer, rest)
    return rest


def after_treaty(treaty, spread):
    """Return the spread of what remains of the values of a spread."""
    return gathered([(remaining(treaty, value), chance) for value, chance in spread])
