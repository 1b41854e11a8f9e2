"""Worths: of a quantity in a book, of an entry, and made of other worths."""

from measurebook.book import bases_of
from measurebook.exact import are_same, near_lowest, product_of, quotient, to_power

MOST_POWER = 99


class Worth:
    """A ratio and the powers, one for each base in the book's order."""

    def __init__(self, ratio, powers):
        self.ratio = ratio
        self.powers = powers


def power_at(book, base, factors):
    return sum([power * book.entries[name].powers.get(base, 0) for name, power in factors])


def powers_of(book, factors):
    return [power_at(book, base, factors) for base in bases_of(book)]


def ratio_of(book, quantity):
    """The ratio of the quantity, or None if it is too far."""
    ratios = [to_power(book.entries[name].ratio, power) for name, power in quantity.factors]
    top = quantity.number.top * product_of([ratio.top for ratio in ratios])
    bottom = quantity.number.bottom * product_of([ratio.bottom for ratio in ratios])
    return near_lowest(top, bottom)


def worth_of(book, quantity):
    """The worth of the quantity, whose names are all in the book, or None if it is too far."""
    powers = powers_of(book, quantity.factors)
    if any([abs(power) > MOST_POWER for power in powers]):
        return None
    ratio = ratio_of(book, quantity)
    return None if ratio is None else Worth(ratio, powers)


def entry_worth(book, name):
    return Worth(book.entries[name].ratio, powers_of(book, [(name, 1)]))


def are_alike(a, b):
    return a.powers == b.powers


def are_equal(a, b):
    return are_alike(a, b) and are_same(a.ratio, b.ratio)


def raised(worth, power):
    """The worth to that power, however far it is."""
    return Worth(to_power(worth.ratio, power), [power * each for each in worth.powers])


def without(worth, part):
    """The worth that times the part is the whole worth."""
    powers = [whole - taken for whole, taken in zip(worth.powers, part.powers)]
    return Worth(quotient(worth.ratio, part.ratio), powers)


def is_plain_one(worth):
    return worth.ratio.top == 1 and worth.ratio.bottom == 1 and not any(worth.powers)
