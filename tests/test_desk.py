"""Points 27 and 28: the desk."""

import copy
import random
import unittest
from fractions import Fraction

from lastcoffer.barriers import best_barrier, yields
from lastcoffer.desk import Desk
from lastcoffer.exact import exact_ruin, is_certain
from lastcoffer.finders import find_lower, find_upper
from lastcoffer.houses import change_of
from lastcoffer.spans import best_treaty, least_ruin, plan_ruin
from lastcoffer.tables import value_at
from common import HUGE, even, lists_in, pair, read, refused, untouched
from plain import FREE, SAFE, SURE, WALK, some_house

# Two weathers and three treaties. The treaty 1 takes 2 of a year of the walk, the treaty 2 bears all damages.
HOUSE = ([(1, [[(0, (2, 3)), (2, (1, 3))]], [(0, (3, 4)), (1, (1, 4))]), (1, [[(0, (3, 4)), (2, (1, 4))]], even([0, 1]))],
         [FREE, (2, []), (1, [("share", (0, 1))])])
GOOD = ["ruin 3 1 5", "best 3 1 5", "plan 0 1", "within 3 1 5", "upper 4 3/4 100 5", "lower 4 9/10 3/4 100 5",
        "bounds 3 1", "certain 1 2", "exact 5 1 0", "barrier 3 1 9", "yield 9 3 1"]
FRACTIONS = {("upper", 2), ("lower", 2), ("lower", 3)}


def text(worth):
    worth = read(worth)
    return str(worth.numerator) if worth.denominator == 1 else f"{worth.numerator}/{worth.denominator}"


def asked(desk, *commands):
    return [desk.ask(command) for command in commands]


def seen(desk):
    """Return answers that tell of the plan and the papers."""
    return asked(desk, "within 2 0 4", "within 2 1 4", "bounds 0 0", "bounds 3 1", "bounds 9 0")


class Answers(unittest.TestCase):
    def test_ruin_and_best(self):
        desk = Desk(HOUSE)
        for reserve in (0, 1, 3):
            for weather in (0, 1):
                for years in (0, 1, 2, 7):
                    state = (reserve, weather)
                    self.assertEqual(desk.ask(f"ruin {reserve} {weather} {years}"), text(least_ruin(HOUSE, state, years)))
                    if years:
                        self.assertEqual(desk.ask(f"best {reserve} {weather} {years}"), str(best_treaty(HOUSE, state, years)))
        self.assertEqual(asked(Desk(WALK), "ruin 0 0 1", "ruin 0 0 0", "ruin 0 0 3", "best 0 0 3", "ruin 100000 0 60"),
                         ["1/3", "0", "11/27", "0", "0"])
        self.assertEqual(Desk((WALK[0], [(2, []), FREE])).ask("best 0 0 3"), "1")

    def test_plan_and_within(self):
        desk = Desk(HOUSE)
        self.assertEqual(desk.ask("within 2 0 4"), text(plan_ruin(HOUSE, [[0], [0]], (2, 0), 4)))
        for first in range(3):
            for second in range(3):
                self.assertEqual(desk.ask(f"plan {first} {second}"), "ok")
                for state in ((0, 0), (2, 1), (1, 0)):
                    for years in (0, 1, 4):
                        self.assertEqual(desk.ask(f"within {state[0]} {state[1]} {years}"),
                                         text(plan_ruin(HOUSE, [[first], [second]], state, years)))
        self.assertEqual(asked(Desk(WALK), "plan 0", "within 0 0 3"), ["ok", "11/27"])

    def test_a_plan_has_a_number_for_each_weather(self):
        for weathers in range(1, 5):
            desk = Desk(([(1, [], SURE)] * weathers, [FREE, FREE]))
            self.assertEqual(desk.ask("plan" + " 1" * weathers), "ok")
            for many in range(7):
                if many != weathers:
                    refused(self, "BadCommand", desk.ask, "plan" + " 1" * many)

    def test_no_such_treaty(self):
        desk = Desk(HOUSE)
        desk.ask("plan 1 2")
        before = seen(desk)
        for command in ("plan 3 0", "plan 0 3", "plan 999999 1", "plan 1 4"):
            refused(self, "OutOfRange", desk.ask, command)
            self.assertEqual(seen(desk), before)

    def test_papers_and_bounds(self):
        desk = Desk(HOUSE)
        self.assertEqual(asked(desk, "bounds 0 0", "bounds 10000 1", "bounds 10001 1", "bounds 999999 0"), ["none none"] * 4)
        self.assertEqual(desk.ask("lower 5 9/10 1/2 1000 6"), "ok")
        low = find_lower(HOUSE, discount=(9, 10), size=5, q=(1, 2), grain=1000, rounds=6)[1]
        for reserve in (0, 2, 5, 9, 10000):
            self.assertEqual(desk.ask(f"bounds {reserve} 1"), f"{text(value_at(low, reserve, 1))} none")
        self.assertEqual(desk.ask("upper 5 3/4 1000 6"), "ok")
        high = find_upper(HOUSE, [0, 0], size=5, q=(3, 4), grain=1000, rounds=6)[1]
        for reserve in (0, 1, 2, 5, 9, 300):
            for weather in (0, 1):
                self.assertEqual(desk.ask(f"bounds {reserve} {weather}"),
                                 f"{text(value_at(low, reserve, weather))} {text(value_at(high, reserve, weather))}")
        only = Desk(HOUSE)
        self.assertEqual(asked(only, "upper 5 3/4 1000 6", "bounds 2 1"), ["ok", f"none {text(value_at(high, 2, 1))}"])

    def test_values_above_1(self):
        house = ([(1, [], SURE), (0, [[(1, (1, 1))]], SURE)], [FREE])
        self.assertEqual(asked(Desk(house), "upper 0 1/2 1 0", "bounds 0 0", "bounds 0 1", "bounds 1 1"),
                         ["ok", "none 1", "none 5/2", "none 5/4"])

    def test_the_plan_of_the_upper_paper(self):
        desk = Desk(HOUSE)
        for treaties in ([0, 0], [2, 0], [0, 2]):
            desk.ask(f"plan {treaties[0]} {treaties[1]}")
            self.assertEqual(find_upper(HOUSE, treaties, size=3, q=(4, 5), grain=50, rounds=4) is None,
                             desk.ask("upper 3 4/5 50 4") == "none")
        desk.ask("plan 0 0")
        desk.ask("upper 3 4/5 50 4")
        first = desk.ask("bounds 1 1")
        high = find_upper(HOUSE, [0, 0], size=3, q=(4, 5), grain=50, rounds=4)[1]
        self.assertEqual(first, f"none {text(value_at(high, 1, 1))}")
        # Another plan leaves the kept paper.
        desk.ask("plan 1 1")
        self.assertEqual(desk.ask("bounds 1 1"), first)
        # There is none for the new plan; so the desk goes on keeping the one from before.
        self.assertEqual(asked(desk, "upper 3 4/5 50 4", "bounds 1 1"), ["none", first])

    def test_none_at_first(self):
        desk = Desk(WALK)
        self.assertEqual(asked(desk, "upper 3 1/2 50 4", "bounds 1 0"), ["none", "none none"])
        self.assertEqual(asked(desk, "lower 2 9/10 2/3 100 2", "bounds 1 0", "upper 2 2/3 100 2", "bounds 1 0"),
                         ["ok", "9/100 none", "ok", "9/100 14/25"])
        self.assertEqual(asked(desk, "upper 3 1/2 50 4", "bounds 1 0"), ["none", "9/100 14/25"])

    def test_newer_papers(self):
        desk = Desk(WALK)
        self.assertEqual(asked(desk, "upper 2 2/3 100 0", "bounds 0 0", "upper 2 2/3 100 1", "bounds 0 0",
                               "upper 2 2/3 100 0", "bounds 0 0"), ["ok", "none 1", "ok", "none 39/50", "ok", "none 1"])
        self.assertEqual(asked(desk, "lower 2 9/10 2/3 100 1", "bounds 0 0", "lower 2 9/10 2/3 100 0", "bounds 0 0"),
                         ["ok", "3/10 1", "ok", "0 1"])

    def test_certain_and_exact(self):
        desk = Desk(HOUSE)
        for weather in (0, 1):
            for treaty in range(3):
                spread = change_of(HOUSE, weather, treaty)
                self.assertEqual(desk.ask(f"certain {weather} {treaty}"), "yes" if is_certain(spread) else "no")
                for reserve in (0, 3, 200):
                    self.assertEqual(desk.ask(f"exact {reserve} {weather} {treaty}"), text(exact_ruin(spread, reserve)))
        self.assertEqual(asked(desk, "certain 0 0", "certain 0 1", "certain 0 2", "exact 2 0 0", "exact 2 0 1", "exact 2 0 2"),
                         ["no", "yes", "no", "1/8", "1", "0"])
        # The words of exact and certain are a reserve, a weather and a treaty, in this order.
        refused(self, "OutOfRange", desk.ask, "certain 2 0")
        refused(self, "OutOfRange", desk.ask, "certain 0 3")
        self.assertEqual(desk.ask("exact 200 1 2"), "0")
        for command in ("exact 201 0 0", "exact 0 2 0", "exact 0 0 3"):
            refused(self, "OutOfRange", desk.ask, command)
        refused(self, "OutOfRange", Desk(SAFE).ask, "exact 0 0 0")
        self.assertEqual(asked(Desk(SAFE), "exact 0 0 1", "certain 0 1"), ["0", "no"])

    def test_barrier_and_yield(self):
        desk = Desk(HOUSE)
        for plan in ([0, 0], [1, 0], [0, 1], [0, 2], [2, 2]):
            desk.ask(f"plan {plan[0]} {plan[1]}")
            lists = [[treaty] for treaty in plan]
            for state in ((0, 0), (2, 1), (4, 0)):
                best = best_barrier(HOUSE, lists, state, 6)
                self.assertEqual(desk.ask(f"barrier {state[0]} {state[1]} 6"), "none" if best is None else str(best))
                for barrier in (4, 5):
                    found = yields(HOUSE, lists, barrier)[state[1]][state[0]]
                    self.assertEqual(desk.ask(f"yield {barrier} {state[0]} {state[1]}"),
                                     "none" if found is None else f"{text(found[0])} {text(found[1])}")
        self.assertEqual(asked(Desk(WALK), "yield 0 0 0", "barrier 0 0 5", "yield 59 59 0")[:2], ["3 2", "5"])
        self.assertEqual(asked(Desk(SAFE), "yield 3 2 0", "barrier 2 0 5"), ["none", "none"])
        coin = Desk(([(1, [even([0, 2])], SURE)], [FREE]))
        self.assertEqual(asked(coin, "yield 1 0 0", "yield 1 1 0", "barrier 3 0 9"), ["4 1", "6 2", "3"])

    def test_many_houses(self):
        chooser = random.Random(70)
        for seed in range(40):
            house = some_house(seed, 5)
            desk = Desk(house)
            plan = [chooser.randrange(len(house[1])) for _ in house[0]]
            w, r, n = chooser.randrange(len(house[0])), chooser.randint(0, 5), chooser.randint(1, 5)
            lists = [[treaty] for treaty in plan]
            desk.ask("plan " + " ".join(str(treaty) for treaty in plan))
            self.assertEqual(desk.ask(f"within {r} {w} {n}"), text(plan_ruin(house, lists, (r, w), n)))
            self.assertEqual(desk.ask(f"ruin {r} {w} {n}"), text(least_ruin(house, (r, w), n)))
            high = find_upper(house, plan, size=n, q=(3, 4), grain=100, rounds=r)
            low = find_lower(house, discount=(9, 10), size=r, q=(3, 4), grain=100, rounds=n)
            self.assertEqual(desk.ask(f"upper {n} 3/4 100 {r}"), "none" if high is None else "ok")
            self.assertEqual(desk.ask(f"lower {r} 9/10 3/4 100 {n}"), "ok")
            told = "none" if high is None else text(value_at(high[1], r, w))
            self.assertEqual(desk.ask(f"bounds {r} {w}"), f"{text(value_at(low[1], r, w))} {told}")


class Numbers(unittest.TestCase):
    def test_six_digits(self):
        desk = Desk(HOUSE)
        for command in ("ruin 100001 0 1", "ruin 999999 0 1", "ruin 0 999999 1", "ruin 0 0 999999", "best 0 0 999999",
                        "within 999999 0 0", "within 0 0 61", "plan 999999 999999", "upper 999999 1/2 1 1",
                        "upper 1 1/2 1 999999", "lower 999999 1/2 1/2 1 1", "bounds 0 999999", "certain 999999 999999",
                        "exact 999999 0 0", "barrier 999999 0 0", "yield 0 999999 0", "yield 0 0 999999"):
            refused(self, "OutOfRange", desk.ask, command)
        self.assertEqual(desk.ask("ruin 100000 1 60"), "0")
        self.assertEqual(desk.ask("upper 1 123456/999999 100000 200"), "none")
        self.assertEqual(desk.ask("upper 1 999998/999999 999999 200"), "ok")
        self.assertEqual(desk.ask("lower 1 999998/999999 1/999999 999999 200"), "ok")

    def test_fractions_need_not_be_in_lowest_terms(self):
        for q in ("2/3", "4/6", "666666/999999"):
            self.assertEqual(asked(Desk(WALK), f"upper 2 {q} 100 2", "bounds 1 0", "bounds 3 0"),
                             ["ok", "none 14/25", "none 8/27"])
            for discount in ("9/10", "18/20", "899991/999990"):
                self.assertEqual(asked(Desk(WALK), f"lower 2 {discount} {q} 100 2", "bounds 0 0", "bounds 1 0"),
                                 ["ok", "3/10 none", "9/100 none"])

    def test_fractions_out_of_range(self):
        desk = Desk(WALK)
        for word in ("0", "1", "2", "0/1", "0/7", "1/1", "7/7", "3/2", "999999/999998", "999999"):
            refused(self, "OutOfRange", desk.ask, f"upper 2 {word} 100 2")
            refused(self, "OutOfRange", desk.ask, f"lower 2 {word} 1/2 100 2")
            refused(self, "OutOfRange", desk.ask, f"lower 2 1/2 {word} 100 2")

    def test_numbers_out_of_range(self):
        desk = Desk(WALK)
        for command in ("upper 401 2/3 1 1", "upper 1 2/3 0 1", "upper 1 2/3 1 201", "lower 401 1/2 1/2 1 1",
                        "lower 1 1/2 1/2 0 1", "lower 1 1/2 1/2 1 201", "best 0 0 0", "ruin 0 1 1", "within 0 1 1"):
            refused(self, "OutOfRange", desk.ask, command)
        self.assertEqual(asked(desk, "upper 400 2/3 1 0", "lower 400 1/2 1/2 1 0"), ["ok", "ok"])


class Wrong(unittest.TestCase):
    SPOILT = ["+1", "-1", "-0", "01", "00", "007", "1234567", "0000000", "1000000", "x", "1x", "x1", "1.0", "1.", "1e2", "0x1",
              "1_0", "", "\u0661", "1\u0662", "\u00b2", "\uff11", "1\t", "\t1", "1\n", "\n", "1\u00a0", "1,", "/", "1//2",
              "1/", "/2", "1/2/3", "1/0", "0/0", "1/-2", "-1/2", "1/+2", "01/2", "1/02", "1/1234567", "1234567/2", "1/2/",
              "1/x", "x/2", "1/\u0662", "one", "None", "1:2", "1\\2", "~", "!"]

    def spoilt(self):
        """Return good commands with one word spoilt."""
        found = []
        for command in GOOD:
            words = command.split(" ")
            for place in range(1, len(words)):
                wrong = self.SPOILT + ([] if (words[0], place) in FRACTIONS else ["1/2", "3/1", "0/1"])
                for word in wrong:
                    found.append(" ".join(words[:place] + [word] + words[place + 1:]))
        return found

    def test_good_commands(self):
        desk = Desk(HOUSE)
        for command in GOOD:
            self.assertIs(type(desk.ask(command)), str, command)

    def test_spoilt_words(self):
        desk = Desk(HOUSE)
        for command in ("plan 2 0", "upper 4 3/4 100 5", "lower 4 9/10 3/4 100 5"):
            desk.ask(command)
        before = seen(desk)
        for command in self.spoilt():
            refused(self, "BadCommand", desk.ask, command)
        self.assertEqual(seen(desk), before)

    def test_other_numbers_of_words(self):
        desk = Desk(HOUSE)
        for command in GOOD:
            words = command.split(" ")
            for wrong in (words[:-1], words + ["1"], words + ["1", "1"], words[:1], words[1:], words + words, words * 30):
                refused(self, "BadCommand", desk.ask, " ".join(wrong))

    def test_other_first_words(self):
        desk = Desk(HOUSE)
        for command in GOOD:
            word, rest = command.split(" ", 1)
            for wrong in (word.upper(), word.title(), word + "s", word[:-1], word[1:], "x", "0", "ask", "ok", "none", word + "\t",
                          word + "\n", word + ".", "\ufeff" + word, "keys", "\u0440lan"):
                refused(self, "BadCommand", desk.ask, f"{wrong} {rest}")
        for command in ("", " ", "  ", "\n", "\t", "help", "quit", "plan", "ruin", "0", "/"):
            refused(self, "BadCommand", desk.ask, command)

    def test_other_blanks(self):
        desk = Desk(HOUSE)
        for command in GOOD:
            wrong = [" " + command, command + " ", command + "  ", command + "\n", command + "\t", command.replace(" ", "  ")]
            for blank in ("\t", "\n", "\r", "\u00a0", "\u2003", "\x0b", "\x1f", ",", ""):
                wrong.append(command.replace(" ", blank))
                wrong.append(command.replace(" ", blank, 1))
            for place in [at for at, sign in enumerate(command) if sign == " "]:
                wrong.append(command[:place] + " " + command[place:])
                wrong.append(command[:place] + "\t" + command[place + 1:])
            for one in wrong:
                refused(self, "BadCommand", desk.ask, one)

    def test_before_anything_else(self):
        desk = Desk(HOUSE)
        for command in ("ruin 999999 9 01", "best 999999 9 x", "plan 9 x", "plan 9 9 9", "within 999999 99 -1",
                        "upper 999 3/2 0 x", "upper 999 3/0 0 999", "lower 999 0 5 0 1000000", "bounds 999999 x",
                        "bounds 99999 9 9", "certain 9 9 9", "certain 9 x", "exact 999 9 x", "barrier 999 9 x",
                        "yield 5 999 9/1", "yield 999 9 +1"):
            refused(self, "BadCommand", desk.ask, command)

    def test_a_command_that_raises_changes_nothing(self):
        desk = Desk(HOUSE)
        for start in ([], ["plan 2 0", "upper 4 3/4 100 5"], ["lower 4 9/10 3/4 100 5", "plan 0 2"]):
            asked(desk, *start)
            before = seen(desk)
            for command in ("plan 0 3", "plan 3 0", "plan 1", "plan 1 1 1", "plan 1 x", "upper 401 3/4 100 5",
                            "upper 4 4/3 100 5", "upper 4 3/4 0 5", "upper 4 3/4 100 201", "upper 4 3/4 100",
                            "upper 4 3/4 100 5 5", "lower 401 9/10 3/4 100 5", "lower 4 1 3/4 100 5", "lower 4 9/10 0 100 5",
                            "lower 4 9/10 3/4 0 5", "lower 4 9/10 3/4 100 201", "lower 4 9/10 3/4 100 5 5"):
                with self.assertRaises(ValueError):
                    desk.ask(command)
                self.assertEqual(seen(desk), before, command)


class Ranges(unittest.TestCase):
    def test_bounds(self):
        desk = Desk(HOUSE)
        for command in ("bounds 0 2", "bounds 10001 2", "bounds 999999 999999"):
            refused(self, "OutOfRange", desk.ask, command)
        for start, keeps in (("plan 0 0", False), ("lower 2 1/2 1/2 10 2", True), ("upper 2 3/4 10 2", True)):
            fresh_desk = Desk(HOUSE)
            self.assertEqual(fresh_desk.ask(start), "ok")
            refused(self, "OutOfRange", fresh_desk.ask, "bounds 0 2")
            for reserve in (10001, 10002, 999999):
                if keeps:
                    refused(self, "OutOfRange", fresh_desk.ask, f"bounds {reserve} 1")
                else:
                    self.assertEqual(fresh_desk.ask(f"bounds {reserve} 1"), "none none")
                refused(self, "OutOfRange", fresh_desk.ask, f"bounds {reserve} 2")

    def test_yield(self):
        desk = Desk(HOUSE)
        for command in ("yield 4 5 0", "yield 4 0 2", "yield 0 1 0", "yield 29 30 1", "yield 999999 0 2", "yield 30 0 2",
                        "yield 30 31 0"):
            refused(self, "OutOfRange", desk.ask, command)
        for command in ("yield 30 0 0", "yield 30 30 1", "yield 999999 0 0"):
            refused(self, "TooLong", desk.ask, command)
        self.assertIn(" ", desk.ask("yield 29 29 1"))

    def test_barrier(self):
        desk = Desk(HOUSE)
        for command in ("barrier 5 0 4", "barrier 0 2 4", "barrier 0 2 999", "barrier 999 0 99"):
            refused(self, "OutOfRange", desk.ask, command)
        for command in ("barrier 0 0 30", "barrier 30 1 30", "barrier 0 0 999999"):
            refused(self, "TooLong", desk.ask, command)
        self.assertEqual(desk.ask("barrier 29 1 29"), "29")

    def test_too_many_states(self):
        house = ([(0, [even(range(30)), even(range(0, 180, 30)), even([0, 161])], even(range(4)))] * 4, [FREE])
        desk = Desk(house)
        for word in ("ruin", "best", "within"):
            refused(self, "TooLong", desk.ask, f"{word} 100000 0 60")
            self.assertEqual(desk.ask(f"{word} 100000 0 2"), "0")


class Long(unittest.TestCase):
    def test_a_long_low(self):
        # With q = 1/4 the value for the reserve r is 1 / 2 ** (2 * r).
        house = ([(1, [[(0, (9, 10)), (2, (1, 10))]], SURE)], [FREE])
        desk = Desk(house)
        self.assertEqual(desk.ask("upper 0 1/4 1 0"), "ok")
        self.assertEqual(asked(desk, "bounds 0 0", "bounds 2 0", "bounds 6499 0"), ["none 1", "none 1/16", f"none 1/{4 ** 6499}"])
        for reserve in (6500, 6501, 10000):
            refused(self, "TooLong", desk.ask, f"bounds {reserve} 0")
        self.assertEqual(asked(desk, "upper 0 1/2 1 0", "bounds 10000 0"), ["ok", f"none 1/{2 ** 10000}"])

    def test_a_low_that_is_no_power_of_2(self):
        desk = Desk(WALK)
        desk.ask("upper 0 2/3 1 0")
        most = max(r for r in range(10000) if 3 ** r < 2 ** 13000)
        self.assertEqual(desk.ask(f"bounds {most} 0"), f"none {2 ** most}/{3 ** most}")
        refused(self, "TooLong", desk.ask, f"bounds {most + 1} 0")
        self.assertEqual(desk.ask("lower 0 1/2 2/3 1 0"), "ok")
        refused(self, "TooLong", desk.ask, f"bounds {most + 1} 0")
        refused(self, "OutOfRange", desk.ask, "bounds 10001 0")
        refused(self, "OutOfRange", desk.ask, f"bounds {most + 1} 1")

    def yielded(self, chance):
        """Ask for the yield of a house in which each year is the last one with a chance, and pays 1 otherwise."""
        house = ([(1, [[(0, pair(1 - chance)), (2, pair(chance))]], SURE)], [FREE])
        return Desk(house)

    def test_a_long_top(self):
        for years in (2 ** 13000 - 1, 2 ** 12999, 10 ** 3900):
            self.assertEqual(self.yielded(Fraction(1, years)).ask("yield 0 0 0"), f"{years} {years - 1}")
        self.assertEqual(self.yielded(Fraction(1, 2 ** 13000 - 1)).ask("exact 0 0 0"), f"1/{2 ** 13000 - 2}")
        # Only the first one of the two fractions is too long.
        refused(self, "TooLong", self.yielded(Fraction(1, 2 ** 13000)).ask, "yield 0 0 0")
        refused(self, "TooLong", self.yielded(Fraction(1, 2 ** 13000 + 1)).ask, "yield 0 0 0")
        refused(self, "TooLong", self.yielded(Fraction(2, 2 ** 13001 - 1)).ask, "ruin 0 0 1")

    def test_ruin_and_within(self):
        low = 2 ** 13000
        for chance, fits in ((Fraction(1, low - 1), True), (Fraction(1, low), False), (Fraction(low - 2, low - 1), True),
                             (Fraction(low - 1, low), False)):
            desk = self.yielded(chance)
            for word in ("ruin", "within"):
                if fits:
                    self.assertEqual(desk.ask(f"{word} 0 0 1"), text(pair(chance)))
                else:
                    refused(self, "TooLong", desk.ask, f"{word} 0 0 1")
                self.assertEqual(desk.ask(f"{word} 1 0 1"), "0")
            self.assertEqual(desk.ask("best 0 0 1"), "0")


class Houses(unittest.TestCase):
    def test_bad_houses(self):
        line = [(0, (1, 2)), (3, (1, 2))]
        for house in (([], [FREE]), ([(1, [line], SURE)], []), ([(1001, [line], SURE)], [FREE]), ([(-1, [line], SURE)], [FREE]),
                      ([(1, [line] * 4, SURE)], [FREE]), ([(1, [line], [(1, (1, 1))])], [FREE]), ([(1, [line], [])], [FREE]),
                      ([(1, [[(0, (1, 2))]], SURE)], [FREE]), ([(1, [[(-1, (1, 1))]], SURE)], [FREE]),
                      ([(1, [line], SURE)] * 5, [FREE]), ([(1, [line], SURE)], [FREE] * 5),
                      ([(1, [line], SURE)], [(0, [("limit", -1)])]), ([(1, [line], SURE)], [(0, [("none",)])]),
                      ([(1, [line], SURE)], [(1001, [])]), ([(1, [line], SURE)], [(HUGE, [])])):
            refused(self, "BadHouse", Desk, house)

    def test_the_house_of_the_desk_stays(self):
        house = copy.deepcopy(HOUSE)
        desk = Desk(house)
        expected = asked(desk, *GOOD)
        other = Desk(house)
        for one in lists_in(house):
            one.clear()
        self.assertEqual(asked(other, *GOOD), expected)

    def test_the_house_is_not_changed(self):
        house = copy.deepcopy(HOUSE)
        desk = untouched(self, Desk, house)
        asked(desk, *GOOD)
        self.assertEqual(house, HOUSE)

    def test_desks_are_apart(self):
        first, second = Desk(HOUSE), Desk(HOUSE)
        before = seen(second)
        asked(first, *GOOD)
        self.assertEqual(seen(second), before)
        self.assertNotEqual(seen(first), before)
