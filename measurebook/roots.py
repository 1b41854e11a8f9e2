"""Roots of whole numbers, of fractions and of worths."""

from measurebook.exact import Exact, times_itself
from measurebook.worths import Worth


def whole_root(number, k):
    """The whole number above 0 whose k-th power is the number, which is above 0; or None."""
    above = 2
    while times_itself(above, k) <= number:
        above = above * 2
    # The root, if there is one, stays at low or between low and above.
    low = 1
    while above - low > 1:
        middle = (low + above) // 2
        if times_itself(middle, k) <= number:
            low = middle
        else:
            above = middle
    return low if times_itself(low, k) == number else None


def fraction_root(fraction, k):
    """The fraction above 0 whose k-th power is the fraction, which is above 0; or None."""
    # In lowest terms a fraction is a k-th power only if its numerator and its denominator both are.
    top = whole_root(fraction.top, k)
    bottom = whole_root(fraction.bottom, k)
    if top is None or bottom is None:
        return None
    return Exact(top, bottom)


def worth_root(worth, k):
    """The worth whose k-th power is the worth, or None."""
    if any([power % k != 0 for power in worth.powers]):
        return None
    ratio = fraction_root(worth.ratio, k)
    if ratio is None:
        return None
    return Worth(ratio, [power // k for power in worth.powers])
