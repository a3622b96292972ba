"""What several test files share."""

import copy
import random
from fractions import Fraction

from lastcoffer import errors

REFUSALS = ("BadSpread", "BadHouse", "OutOfRange", "TooLong", "BadCommand")
HUGE = 10 ** 60 - 1


def refused(case, name, act, *args, **named):
    """Check that a call raises the named class, and none of the other four, and changes no argument."""
    before = copy.deepcopy((args, named))
    try:
        act(*args, **named)
    except ValueError as error:
        case.assertEqual((args, named), before, act)
        case.assertIs(error.__class__, getattr(errors, name), args)
        case.assertIsInstance(error, errors.CofferError)
        for other in REFUSALS:
            if other != name:
                case.assertNotIsInstance(error, getattr(errors, other))
        return
    case.fail(f"{act.__name__}{args!r}{named!r} was not refused")


def untouched(case, act, *args, **named):
    """Return the answer of a call, and check that its arguments are the same afterwards."""
    before = copy.deepcopy((args, named))
    answer = act(*args, **named)
    case.assertEqual((args, named), before, act.__name__)
    return answer


def lists_in(value):
    """Return all lists in a value, at each place where they occur."""
    found = [value] if isinstance(value, list) else []
    if isinstance(value, (list, tuple)):
        for part in value:
            found.extend(lists_in(part))
    return found


def fresh(case, act, *args, **named):
    """Return the answer of a call whose lists are new, at one place each, and may be spoilt without any effect."""
    answer = untouched(case, act, *args, **named)
    expected = copy.deepcopy(answer)
    before = copy.deepcopy((args, named))
    own = lists_in(answer)
    case.assertEqual(len({id(one) for one in own}), len(own), act.__name__)
    given = {id(one) for one in lists_in([args, list(named.values())])}
    case.assertFalse([one for one in own if id(one) in given], act.__name__)
    for one in own:
        one.append("spoilt")
        one.reverse()
    case.assertEqual((args, named), before, act.__name__)
    case.assertEqual(act(*args, **named), expected, act.__name__)
    return expected


def is_new(case, act, *args):
    """Check that changes to a returned list reach neither the arguments nor later answers."""
    before = copy.deepcopy(args)
    answer = untouched(case, act, *args)
    expected = list(answer)
    case.assertIs(type(answer), list)
    answer.clear()
    answer.append("spoilt")
    case.assertEqual(args, before, act.__name__)
    case.assertEqual(act(*args), expected, act.__name__)


def pair(value):
    """Return a Fraction or an integer as the program writes it."""
    value = Fraction(value)
    return (value.numerator, value.denominator)


def read(chance):
    return Fraction(chance[0], chance[1])


def even(values):
    """Return the spread in which all values have the same chance."""
    return [(value, (1, len(values))) for value in sorted(values)]


def some_spread(seed, size, low, high):
    """Return a spread of so many values; the same seed gives the same one."""
    chooser = random.Random(seed)
    values = sorted(chooser.sample(range(low, high + 1), size))
    weights = [chooser.randint(1, 12) for _ in values]
    return [(value, pair(Fraction(weight, sum(weights)))) for value, weight in zip(values, weights)]


def plainly_gathered(items):
    """Gather by plain reckoning: items hold Fractions here, the answer holds tuples."""
    values = sorted({value for value, _ in items})
    sums = [(value, sum(chance for known, chance in items if known == value)) for value in values]
    return [(value, pair(chance)) for value, chance in sums if chance != 0]
