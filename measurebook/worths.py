"""The worth of a quantity in a book."""

from measurebook.book import bases_of
from measurebook.exact import near_lowest, times_itself

MOST_POWER = 99


class Worth:
    """A ratio and the powers, one for each base in the book's order."""

    def __init__(self, ratio, powers):
        self.ratio = ratio
        self.powers = powers


def power_at(book, base, factors):
    return sum([power * book.entries[name].powers.get(base, 0) for name, power in factors])


def powers_of(book, factors):
    return [power_at(book, base, factors) for base in bases_of(book)]


def ratio_of(book, quantity):
    """The ratio of the quantity, or None if it is too far."""
    top = quantity.number.top
    bottom = quantity.number.bottom
    for name, power in quantity.factors:
        ratio = book.entries[name].ratio
        above = times_itself(ratio.top, abs(power))
        below = times_itself(ratio.bottom, abs(power))
        top = top * (above if power > 0 else below)
        bottom = bottom * (below if power > 0 else above)
    return near_lowest(top, bottom)


def worth_of(book, quantity):
    """The worth of the quantity, whose names are all in the book, or None if it is too far."""
    powers = powers_of(book, quantity.factors)
    if any([abs(power) > MOST_POWER for power in powers]):
        return None
    ratio = ratio_of(book, quantity)
    return None if ratio is None else Worth(ratio, powers)


def are_alike(a, b):
    return a.powers == b.powers
