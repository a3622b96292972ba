"""The desk: answers commands about a house, and keeps a plan and papers."""

from lastcoffer.barriers import best_barrier, yields
from lastcoffer.chances import fraction
from lastcoffer.errors import BadCommand, OutOfRange, TooLong
from lastcoffer.exact import exact_ruin, is_certain
from lastcoffer.finders import find_lower, find_upper
from lastcoffer.houses import change_of, check_house, check_index
from lastcoffer.spans import best_treaty, check_plan, least_ruin, plan_ruin
from lastcoffer.tables import value_at

DIGITS = "0123456789"
MOST_DIGITS = 6
MOST_BITS = 13000


def number_in(word):
    """Return the number that a word writes. Raise BadCommand if it writes none."""
    if not 1 <= len(word) <= MOST_DIGITS or any([sign not in DIGITS for sign in word]):
        raise BadCommand("a word is no number")
    if word[0] == "0" and len(word) > 1:
        raise BadCommand("a number has a leading zero")
    return int(word)


def fraction_in(word):
    """Return the fraction that a word writes. Raise BadCommand if it writes none."""
    top_word, stroke, low_word = word.partition("/")
    top = number_in(top_word)
    if stroke == "":
        return (top, 1)
    low = number_in(low_word)
    if low == 0:
        raise BadCommand("the low of a fraction is 0")
    return fraction(top, low)


def parsed(command, weathers):
    """Return the first word of a command, and the numbers and fractions that follow, in a house of so many weathers."""
    word, *rest = command.split(" ")
    if word not in ANSWERS:
        raise BadCommand("the first word is unknown")
    form = "n" * weathers if word == "plan" else FORMS[word]
    if len(rest) != len(form):
        raise BadCommand("the number of words is wrong")
    return word, [number_in(part) if kind == "n" else fraction_in(part) for kind, part in zip(form, rest)]


def text_of(worth):
    """Return a fraction as an answer writes it. Raise TooLong if it is too long."""
    top, low = worth
    if top.bit_length() > MOST_BITS or low.bit_length() > MOST_BITS:
        raise TooLong("a fraction of the answer is too long")
    return f"{top}" if low == 1 else f"{top}/{low}"


def tell_ruin(desk, parts):
    """Answer with the least chance of ruin."""
    reserve, weather, years = parts
    return text_of(least_ruin(desk.house, (reserve, weather), years))


def tell_best(desk, parts):
    """Answer with the best treaty."""
    reserve, weather, years = parts
    return f"{best_treaty(desk.house, (reserve, weather), years)}"


def take_plan(desk, parts):
    """Change the plan to one that chooses one treaty in each weather."""
    plan = [[treaty] for treaty in parts]
    check_plan(desk.house, plan)
    desk.plan = plan
    return "ok"


def tell_within(desk, parts):
    """Answer with the chance of ruin of the plan."""
    reserve, weather, years = parts
    return text_of(plan_ruin(desk.house, desk.plan, (reserve, weather), years))


def take_upper(desk, parts):
    """Find an upper paper for the plan, and keep it if there is one."""
    size, q, grain, rounds = parts
    treaties = [choices[0] for choices in desk.plan]
    paper = find_upper(desk.house, treaties, size=size, q=q, grain=grain, rounds=rounds)
    if paper is None:
        return "none"
    desk.upper_paper = paper
    return "ok"


def take_lower(desk, parts):
    """Find a lower paper, and keep it."""
    size, discount, q, grain, rounds = parts
    desk.lower_paper = find_lower(desk.house, discount=discount, size=size, q=q, grain=grain, rounds=rounds)
    return "ok"


def tell_bounds(desk, parts):
    """Answer with the values of the kept papers."""
    reserve, weather = parts
    check_index(weather, desk.house[0])
    return f"{bound_in(desk.lower_paper, reserve, weather)} {bound_in(desk.upper_paper, reserve, weather)}"


def bound_in(paper, reserve, weather):
    """Return the value of a paper as an answer writes it."""
    if paper is None:
        return "none"
    _, table = paper
    return text_of(value_at(table, reserve, weather))


def tell_certain(desk, parts):
    """Answer whether ruin is certain."""
    weather, treaty = parts
    return "yes" if is_certain(change_of(desk.house, weather, treaty)) else "no"


def tell_exact(desk, parts):
    """Answer with the chance of ruin for ever."""
    reserve, weather, treaty = parts
    return text_of(exact_ruin(change_of(desk.house, weather, treaty), reserve))


def tell_barrier(desk, parts):
    """Answer with the best barrier."""
    reserve, weather, most = parts
    best = best_barrier(desk.house, desk.plan, (reserve, weather), most)
    return "none" if best is None else f"{best}"


def tell_yield(desk, parts):
    """Answer with the yield of a state."""
    barrier, reserve, weather = parts
    check_index(weather, desk.house[0])
    if reserve > barrier:
        raise OutOfRange("the reserve is above the barrier")
    found = yields(desk.house, desk.plan, barrier)[weather][reserve]
    if found is None:
        return "none"
    years, paid = found
    return f"{text_of(years)} {text_of(paid)}"


ANSWERS = {
    "ruin": tell_ruin,
    "best": tell_best,
    "plan": take_plan,
    "within": tell_within,
    "upper": take_upper,
    "lower": take_lower,
    "bounds": tell_bounds,
    "certain": tell_certain,
    "exact": tell_exact,
    "barrier": tell_barrier,
    "yield": tell_yield,
}
# The kinds of the words after the first one: n for a number, f for a fraction. A plan has as many
# numbers as the house has weathers.
FORMS = {
    "ruin": "nnn",
    "best": "nnn",
    "within": "nnn",
    "upper": "nfnn",
    "lower": "nffnn",
    "bounds": "nn",
    "certain": "nn",
    "exact": "nnn",
    "barrier": "nnn",
    "yield": "nnn",
}


def copied(house):
    """Return a house without the lists of another one."""
    weathers, treaties = house
    return ([(premium, [list(line) for line in lines], list(turns)) for premium, lines, turns in weathers],
            [(price, list(layers)) for price, layers in treaties])


class Desk:
    """A desk for one house. At first the plan always chooses the treaty 0, and no papers are kept."""

    def __init__(self, house):
        check_house(house)
        self.house = copied(house)
        self.plan = [[0] for _ in self.house[0]]
        self.lower_paper = None
        self.upper_paper = None

    def ask(self, command):
        """Return the answer to a command."""
        word, parts = parsed(command, len(self.house[0]))
        answer = ANSWERS[word]
        return answer(self, parts)
