"""Fractions, and spreads: values with exact chances."""

from math import gcd, lcm

from lastcoffer.errors import BadSpread, OutOfRange

ZERO = (0, 1)
ONE = (1, 1)


def fraction(top, low):
    """Return the fraction top / low in lowest terms."""
    if low == 0:
        raise OutOfRange("the low part of a fraction is 0")
    shared = gcd(top, low)
    # The sign of low goes into the divisor, so that the new low is positive.
    if low < 0:
        shared = -shared
    return (top // shared, low // shared)


def is_fraction(pair):
    """Tell whether a tuple of two integers is a fraction in lowest terms."""
    top, low = pair
    return low >= 1 and gcd(top, low) == 1


def plus(first, second):
    """Return the sum of two fractions."""
    return fraction(first[0] * second[1] + second[0] * first[1], first[1] * second[1])


def minus(first, second):
    """Return the difference of two fractions."""
    return plus(first, (-second[0], second[1]))


def times(first, second):
    """Return the product of two fractions."""
    return fraction(first[0] * second[0], first[1] * second[1])


def over(first, second):
    """Return the quotient of two fractions."""
    # A second one of 0 gives a low part of 0, which fraction refuses.
    return fraction(first[0] * second[1], first[1] * second[0])


def is_less(first, second):
    """Tell whether the first fraction is less than the second one."""
    return first[0] * second[1] < second[0] * first[1]


def check_spread(spread):
    """Raise BadSpread if a list is no spread."""
    for _, chance in spread:
        if not is_fraction(chance) or chance[0] < 1:
            raise BadSpread("a chance is no fraction greater than 0")
    for k in range(1, len(spread)):
        if spread[k - 1][0] >= spread[k][0]:
            raise BadSpread("the values are not in ascending order")
    if total([chance for _, chance in spread]) != ONE:
        raise BadSpread("the sum of the chances is not 1")


def total(fractions):
    """Return the sum of a list of fractions."""
    found = ZERO
    for part in fractions:
        found = plus(found, part)
    return found


def gathered(items):
    """Return the list in ascending order, with the chances of equal values added."""
    sums = {}
    for value, chance in items:
        sums[value] = plus(sums.get(value, ZERO), chance)
    return [(value, sums[value]) for value in sorted(sums) if sums[value] != ZERO]


def mean(spread):
    """Return the sum of the values times their chances."""
    return total([times((value, 1), chance) for value, chance in spread])


def chance_of(spread, value):
    """Return the chance of a value, 0 if it does not occur."""
    for known, chance in spread:
        if known == value:
            return chance
    return ZERO


def sum_of(first, second):
    """Return the spread of the sum of two independent values."""
    items = []
    for left, chance in first:
        for right, other in second:
            items.append((left + right, times(chance, other)))
    return gathered(items)


def mixed(spreads, chances):
    """Return the spread of choosing one of the spreads with these chances."""
    check_choice(spreads, chances)
    items = []
    for spread, share in zip(spreads, chances):
        for value, chance in spread:
            items.append((value, times(share, chance)))
    return gathered(items)


def check_choice(spreads, chances):
    """Raise OutOfRange if the chances are none of choosing one of the spreads."""
    if len(spreads) != len(chances):
        raise OutOfRange("there are not as many chances as spreads")
    for chance in chances:
        if is_less(chance, ZERO):
            raise OutOfRange("a chance is less than 0")
    if total(chances) != ONE:
        raise OutOfRange("the sum of the chances is not 1")


def shifted(spread, places):
    """Return the spread of the values plus an integer."""
    return [(value + places, chance) for value, chance in spread]


def summed(pairs):
    """Return the sum of pairs (top, low) as such a pair, which need not be in lowest terms.

    Without reducing at each step, this is quicker than total for many pairs or long numbers.
    """
    top = 0
    low = 1
    for part_top, part_low in pairs:
        if low % part_low != 0:
            wider = lcm(low, part_low)
            top = top * (wider // low)
            low = wider
        top += part_top * (low // part_low)
    return (top, low)


def integer_power(base, exponent):
    """Return an integer to the power of an exponent that is at least 0."""
    found = 1
    for digit in f"{exponent:b}":
        found = found * found
        if digit == "1":
            found = found * base
    return found


def power(base, exponent):
    """Return a fraction to the power of an exponent that is at least 0."""
    # Powers of numbers without a common divisor have none either.
    return (integer_power(base[0], exponent), integer_power(base[1], exponent))


def times_power(first, base, exponent):
    """Return a fraction times the power of another one."""
    top, low = power(base, exponent)
    # The power is in lowest terms and may be long: it is reduced only against the short fraction.
    left, right_low = fraction(first[0], low)
    right, left_low = fraction(top, first[1])
    return (left * right, left_low * right_low)


def common_low_of(fractions):
    """Return the least low over which all of some fractions can be written."""
    low = 1
    for part in fractions:
        low = lcm(low, part[1])
    return low


def common_low(spreads):
    """Return the least low over which all chances of the spreads can be written."""
    return common_low_of([chance for spread in spreads for _, chance in spread])


def tops_over(spread, low):
    """Return the spread with the tops of its chances over a common low, instead of the chances."""
    return [(value, chance[0] * (low // chance[1])) for value, chance in spread]
