"""Exact fractions, and the bound beyond which a fraction is too far."""

FAR = 10000000000000000000000000000000000000000

# Euclid's way needs at most five divisions for each decimal digit of the smaller number,
# and one more if the greater number stands behind. A fraction that is not too far has
# at most 40 digits above and below.
NEAR_DIVISIONS = 201


class Exact:
    """A fraction in lowest terms; bottom is above 0."""

    def __init__(self, top, bottom):
        self.top = top
        self.bottom = bottom


def is_far(fraction):
    return abs(fraction.top) >= FAR or fraction.bottom >= FAR


def common_divisor(a, b):
    while b != 0:
        rest = a % b
        a = b
        b = rest
    return a


def lowest(top, bottom):
    divisor = common_divisor(abs(top), bottom)
    return Exact(top // divisor, bottom // divisor)


def quotient(a, b):
    """a divided by b, which is above 0, in lowest terms."""
    return lowest(a.top * b.bottom, a.bottom * b.top)


def difference(a, b):
    return lowest(a.top * b.bottom - b.top * a.bottom, a.bottom * b.bottom)


def is_below(a, b):
    return a.top * b.bottom < b.top * a.bottom


def are_same(a, b):
    return a.top == b.top and a.bottom == b.bottom


def near_divisor(a, b):
    """The common divisor, or 0 if a over b in lowest terms is surely too far."""
    for turn in range(NEAR_DIVISIONS + 1):
        if b == 0:
            return a
        rest = a % b
        a = b
        b = rest
    return 0


def near_lowest(top, bottom):
    """The fraction in lowest terms, or None if it is too far."""
    # The divisions depend on the lowest terms alone, so numbers of many thousand digits,
    # as they come up on the way to a worth, are given up after few of them.
    size = abs(top)
    if size == 0:
        return Exact(0, 1)
    if size >= bottom * FAR or bottom >= size * FAR:
        return None
    divisor = near_divisor(size, bottom)
    if divisor == 0:
        return None
    fraction = Exact(top // divisor, bottom // divisor)
    return None if is_far(fraction) else fraction


def times_itself(number, power):
    """number to that power, which is 0 or above."""
    product = 1
    for turn in range(power):
        product = product * number
    return product


def product_of(numbers):
    # Taken in pairs: two great numbers of like size are multiplied far faster than a great one and many small ones.
    left = [1] + numbers
    while len(left) > 1:
        pairs = len(left) // 2
        left = [left[2 * i] * left[2 * i + 1] for i in range(pairs)] + left[2 * pairs:]
    return left[0]


def to_power(fraction, power):
    """The fraction, which is above 0, to a power of any sign."""
    top = times_itself(fraction.top, abs(power))
    bottom = times_itself(fraction.bottom, abs(power))
    return Exact(top, bottom) if power >= 0 else Exact(bottom, top)
