"""Fractions, factors and rounded numbers shown as lists of bytes."""

from measurebook.exact import times_itself
from measurebook.signs import BLANK, EQUALS, HAT, ONE, POINT, SLASH, signs_of


def shown_fraction(fraction):
    shown = signs_of(str(fraction.top))
    if fraction.bottom == 1:
        return shown
    return shown + [SLASH] + signs_of(str(fraction.bottom))


def shown_factor(name, power):
    if power == 1:
        return list(name)
    return list(name) + [HAT] + signs_of(str(power))


def shown_factors(factors):
    if len(factors) == 0:
        return [ONE]
    shown = []
    for name, power in factors:
        if len(shown) > 0:
            shown.append(POINT)
        shown.extend(shown_factor(name, power))
    return shown


def shown_quantity(number, factors):
    """The number and the factors, or the factors alone if the number is 1."""
    measure = shown_factors(factors)
    if number.top == 1 and number.bottom == 1:
        return measure
    return shown_fraction(number) + [BLANK] + measure


def shown_unit(name, entry):
    return list(name) + [EQUALS] + shown_quantity(entry.number, entry.factors)


def nearest(top, bottom):
    """The whole number nearest to top over bottom, which is not below 0; of two, the even one."""
    whole = top // bottom
    twice_rest = 2 * (top % bottom)
    if twice_rest > bottom or (twice_rest == bottom and whole % 2 == 1):
        return whole + 1
    return whole


def shown_rounded(fraction, places):
    """The fraction, rounded to that many decimal places."""
    # Rounded without its sign: nearest and even are the same above and below 0.
    scaled = nearest(abs(fraction.top) * times_itself(10, places), fraction.bottom)
    digits = str(scaled).zfill(places + 1)
    before = len(digits) - places
    written = digits[:before]
    if places > 0:
        written = written + "." + digits[before:]
    if fraction.top < 0 and scaled > 0:
        written = "-" + written
    return signs_of(written)
