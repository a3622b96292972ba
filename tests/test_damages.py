"""Points 5 and 6: damages and treaties."""

import random
import unittest
from fractions import Fraction

from lastcoffer.chances import check_spread
from lastcoffer.damages import after_treaty, check_damage, check_treaty, remaining
from common import HUGE, even, is_new, pair, plainly_gathered, read, refused, some_spread, untouched

HALF = ("share", (1, 2))
KINDS = [("share", (0, 1)), ("share", (1, 1)), HALF, ("share", (2, 3)), ("share", (999, 1000)),
         ("limit", 0), ("limit", 7), ("limit", 1000), ("band", 0, 0), ("band", 0, 5), ("band", 3, 10),
         ("band", 10, 10), ("band", 0, 1000), ("band", 1000, 1000)]
AMOUNTS = list(range(25)) + [999, 1000, 1001, 2000, 12345, HUGE]


def plainly_after(layer, x):
    """Reckon a layer with Fractions, and a band by counting what lies outside of it."""
    if layer[0] == "share":
        exact = Fraction(*layer[1]) * x
        return exact.numerator // exact.denominator + (exact.denominator > 1)
    if layer[0] == "limit":
        return x if x < layer[1] else layer[1]
    below = min(x, layer[1])
    above = max(0, x - layer[2])
    return below + above


def plainly_remaining(treaty, x):
    for layer in treaty[1]:
        x = plainly_after(layer, x)
    return x


def some_treaties():
    chooser = random.Random(6)
    return [(chooser.randint(0, 1000), [chooser.choice(KINDS) for _ in range(chooser.randint(0, 4))])
            for _ in range(150)]


class Damages(unittest.TestCase):
    def test_values_from_0_to_1000(self):
        for spread in ([(0, (1, 1))], [(1000, (1, 1))], even([0, 1000]), even([0, 1, 500, 999, 1000])):
            self.assertIsNone(untouched(self, check_damage, spread))

    def test_values_beyond(self):
        for values in ([-1], [1001], [-1, 5], [5, 1001], [-1, 1001], [0, 1000, 1001], [-1, 0, 1000], [-HUGE], [HUGE]):
            refused(self, "BadHouse", check_damage, even(values))

    def test_30_values_and_31(self):
        self.assertIsNone(check_damage(even(range(30))))
        self.assertIsNone(check_damage(even(range(971, 1001))))
        self.assertIsNone(check_damage(some_spread(1, 30, 0, 1000)))
        refused(self, "BadHouse", check_damage, even(range(31)))
        refused(self, "BadHouse", check_damage, some_spread(1, 31, 0, 1000))
        refused(self, "BadHouse", check_damage, even(range(100)))

    def test_what_is_no_spread_is_no_damage(self):
        for spread in ([], [(1, (1, 2))], [(1, (2, 2))], [(1, (1, 0))], [(2, (1, 2)), (1, (1, 2))]):
            refused(self, "BadHouse", check_damage, spread)


class Treaties(unittest.TestCase):
    def refuses(self, *layer):
        for layers in ([layer], [HALF, layer], [layer, HALF], [HALF, HALF, HALF, layer]):
            refused(self, "BadHouse", check_treaty, (0, layers))

    def takes(self, *layer):
        for layers in ([layer], [HALF, layer], [layer, HALF], [HALF, HALF, HALF, layer]):
            self.assertIsNone(untouched(self, check_treaty, (0, layers)))

    def test_each_kind(self):
        for layer in KINDS:
            self.takes(*layer)
        for treaty in some_treaties():
            self.assertIsNone(untouched(self, check_treaty, treaty))

    def test_prices(self):
        for price in (0, 1, 999, 1000):
            self.assertIsNone(check_treaty((price, [])))
            self.assertIsNone(check_treaty((price, [HALF])))
        for price in (-1, 1001, -HUGE, HUGE):
            refused(self, "BadHouse", check_treaty, (price, []))
            refused(self, "BadHouse", check_treaty, (price, [HALF]))

    def test_numbers_of_layers(self):
        for many in range(5):
            self.assertIsNone(check_treaty((3, [HALF] * many)))
        for many in (5, 6, 20):
            refused(self, "BadHouse", check_treaty, (3, [HALF] * many))

    def test_limits(self):
        for place in (0, 1, 999, 1000):
            self.takes("limit", place)
        for place in (-1, 1001, -HUGE, HUGE):
            self.refuses("limit", place)

    def test_bands(self):
        for ends in ((0, 0), (0, 1000), (1000, 1000), (4, 5), (5, 5)):
            self.takes("band", *ends)
        for ends in ((-1, 5), (-1, -1), (5, 1001), (1001, 1001), (-1, 1001), (0, HUGE), (-HUGE, 0)):
            self.refuses("band", *ends)

    def test_a_band_turned_round(self):
        for ends in ((1, 0), (6, 5), (1000, 0), (1000, 999)):
            self.refuses("band", *ends)

    def test_shares(self):
        for share in ((0, 1), (1, 1), (1, 2), (1, HUGE), (HUGE - 1, HUGE)):
            self.takes("share", share)
        for share in ((-1, 2), (-1, 1), (3, 2), (2, 1), (HUGE + 1, HUGE), (-1, HUGE)):
            self.refuses("share", share)

    def test_shares_that_are_no_fraction(self):
        for share in ((2, 4), (0, 2), (2, 2), (0, 0), (1, 0), (1, -2), (-1, -2), (0, -1), (-1, -1), (5 * HUGE, 6 * HUGE)):
            self.refuses("share", share)

    def test_unknown_words(self):
        for word in ("", "Share", "SHARE", "shares", "share ", " limit", "lim", "bands", "b", "none"):
            self.refuses(word, (1, 2))
            self.refuses(word, 5)
            self.refuses(word, 5, 6)
            self.refuses(word)

    def test_layers_too_short(self):
        self.refuses("share")
        self.refuses("limit")
        self.refuses("band")
        self.refuses("band", 3)

    def test_layers_too_long(self):
        self.refuses("share", (1, 2), (1, 2))
        self.refuses("share", (1, 2), 0)
        self.refuses("limit", 3, 3)
        self.refuses("limit", 3, (1, 2))
        self.refuses("band", 3, 4, 5)
        self.refuses("band", 3, 4, (1, 2))

    def test_integers_for_fractions_and_the_other_way_round(self):
        for number in (0, 1, 2, -1):
            self.refuses("share", number)
        for place in ((0, 1), (1, 1), (5, 1), (1, 2), (0, 0)):
            self.refuses("limit", place)
            self.refuses("band", place, 5)
            self.refuses("band", 5, place)
            self.refuses("band", place, place)


class Remaining(unittest.TestCase):
    def after(self, amount, *layers):
        return remaining((17, list(layers)), amount)

    def test_no_layer(self):
        for amount in AMOUNTS:
            self.assertEqual(self.after(amount), amount)

    def test_a_share_is_rounded_up(self):
        self.assertEqual([self.after(x, HALF) for x in range(6)], [0, 1, 1, 2, 2, 3])
        self.assertEqual([self.after(x, ("share", (2, 3))) for x in range(7)], [0, 1, 2, 2, 3, 4, 4])
        self.assertEqual(self.after(1, ("share", (1, HUGE))), 1)
        self.assertEqual(self.after(HUGE, ("share", (1, HUGE))), 1)
        self.assertEqual(self.after(HUGE + 1, ("share", (1, HUGE))), 2)
        self.assertEqual(self.after(HUGE, ("share", (0, 1))), 0)
        self.assertEqual(self.after(HUGE, ("share", (1, 1))), HUGE)

    def test_a_limit(self):
        self.assertEqual([self.after(x, ("limit", 3)) for x in range(6)], [0, 1, 2, 3, 3, 3])
        self.assertEqual(self.after(HUGE, ("limit", 0)), 0)

    def test_a_band(self):
        self.assertEqual([self.after(x, ("band", 2, 5)) for x in range(9)], [0, 1, 2, 2, 2, 2, 3, 4, 5])
        self.assertEqual([self.after(x, ("band", 3, 3)) for x in range(6)], [0, 1, 2, 3, 4, 5])
        self.assertEqual(self.after(HUGE, ("band", 0, 1000)), HUGE - 1000)

    def test_the_first_layer_comes_first(self):
        self.assertEqual(self.after(10, HALF, ("limit", 4)), 4)
        self.assertEqual(self.after(10, ("limit", 4), HALF), 2)
        self.assertEqual(self.after(10, ("band", 0, 4), HALF), 3)
        self.assertEqual(self.after(10, HALF, ("band", 0, 4)), 1)
        self.assertEqual(self.after(5, HALF, HALF), 2)
        self.assertEqual(self.after(20, ("band", 1, 3), HALF, ("limit", 8), ("share", (1, 3))), 3)

    def test_the_price_does_not_matter(self):
        for price in (0, 1, 1000):
            self.assertEqual(remaining((price, [HALF]), 9), 5)

    def test_against_plain_reckoning(self):
        for layer in KINDS:
            for amount in AMOUNTS:
                self.assertEqual(self.after(amount, layer), plainly_after(layer, amount), layer)
        for treaty in some_treaties():
            for amount in AMOUNTS:
                self.assertEqual(untouched(self, remaining, treaty, amount), plainly_remaining(treaty, amount))


class AfterTreaty(unittest.TestCase):
    def test_amounts_that_become_equal(self):
        self.assertEqual(after_treaty((0, [HALF]), even([0, 1, 2, 3])), [(0, (1, 4)), (1, (1, 2)), (2, (1, 4))])
        self.assertEqual(after_treaty((0, [("limit", 0)]), even(range(12))), [(0, (1, 1))])
        self.assertEqual(after_treaty((0, [("limit", 5)]), even([4, 5, 6, 900])), [(4, (1, 4)), (5, (3, 4))])
        self.assertEqual(after_treaty((0, [("band", 2, 5)]), even([1, 2, 3, 5, 6])),
                         [(1, (1, 5)), (2, (3, 5)), (3, (1, 5))])

    def test_no_layer(self):
        spread = even([0, 3, HUGE])
        self.assertEqual(after_treaty((9, []), spread), spread)
        is_new(self, after_treaty, (9, []), spread)

    def test_against_plain_reckoning(self):
        spreads = [some_spread(seed, 1 + seed % 25, 0, 60) for seed in range(25)] + [even([0, 1000, 3000, HUGE])]
        for k, treaty in enumerate(some_treaties()):
            spread = spreads[k % len(spreads)]
            plain = [(plainly_remaining(treaty, value), read(chance)) for value, chance in spread]
            answer = untouched(self, after_treaty, treaty, spread)
            self.assertEqual(answer, plainly_gathered(plain))
            self.assertIsNone(check_spread(answer))
            is_new(self, after_treaty, treaty, spread)


class Kinds(unittest.TestCase):
    def test_chances_are_lowest_tuples(self):
        answer = after_treaty((0, [("limit", 1)]), even(range(4)))
        self.assertEqual(answer, [(0, (1, 4)), (1, pair(Fraction(3, 4)))])
        self.assertTrue(all(type(item) is tuple and type(item[1]) is tuple for item in answer))
