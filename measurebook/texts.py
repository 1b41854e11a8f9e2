"""Names, number texts, measure texts and quantity texts, told from lists of bytes.

A factor is a pair of a name (a tuple of bytes) and a power.
"""

from measurebook.exact import Exact, near_lowest, times_itself
from measurebook.signs import BLANK, HAT, MINUS, ONE, POINT, SLASH
from measurebook.signs import are_digits, is_name_sign, is_small_letter, whole_of

LONGEST_NAME = 12
LONGEST_NUMBER = 90
LONGEST_QUANTITY = 500
MOST_FACTORS = 20
MOST_POWER_DIGITS = 2


class Quantity:
    """What a quantity text says: its number and its factors, those that are 1 left out."""

    def __init__(self, number, factors):
        self.number = number
        self.factors = factors


class Piece:
    """A piece of a measure text: its place in the whole text, its signs, and whether a / stands right before it."""

    def __init__(self, start, signs, turned):
        self.start = start
        self.signs = signs
        self.turned = turned


def is_name(text):
    if len(text) == 0 or len(text) > LONGEST_NAME:
        return False
    return is_small_letter(text[0]) and all([is_name_sign(sign) for sign in text])


def has_minus(text):
    return len(text) > 0 and text[0] == MINUS


def number_of(text):
    """The fraction of a number text, or None if it is no number text."""
    if len(text) > LONGEST_NUMBER:
        return None
    if not has_minus(text):
        return unsigned_number_of(text)
    number = unsigned_number_of(text[1:])
    return None if number is None else Exact(-number.top, number.bottom)


def unsigned_number_of(text):
    if SLASH in text:
        place = text.index(SLASH)
        return quotient_of(text[:place], text[place + 1:])
    if POINT in text:
        place = text.index(POINT)
        return decimal_of(text[:place], text[place + 1:])
    if not are_digits(text):
        return None
    return near_lowest(whole_of(text), 1)


def quotient_of(before, behind):
    if not are_digits(before) or not are_digits(behind):
        return None
    bottom = whole_of(behind)
    if bottom == 0:
        return None
    return near_lowest(whole_of(before), bottom)


def decimal_of(before, behind):
    if not are_digits(before) or not are_digits(behind):
        return None
    return near_lowest(whole_of(before + behind), times_itself(10, len(behind)))


def power_of(text):
    """The power that the text tells, or None if it tells none."""
    digits = text[1:] if has_minus(text) else text
    if not are_digits(digits) or len(digits) > MOST_POWER_DIGITS:
        return None
    return -whole_of(digits) if has_minus(text) else whole_of(digits)


def factor_of(piece):
    """The name and the power of a factor that is not 1, or None if the piece is no such factor."""
    name = piece
    power = 1
    if HAT in piece:
        place = piece.index(HAT)
        name = piece[:place]
        power = power_of(piece[place + 1:])
    if power is None or not is_name(name):
        return None
    return (tuple(name), power)


def is_factor(piece):
    return piece == [ONE] or factor_of(piece) is not None


def number_before(text):
    """The number before the first blank, 1 if there is no blank, or None if it is no number text."""
    if BLANK not in text:
        return Exact(1, 1)
    return number_of(text[:text.index(BLANK)])


def measure_start(text):
    """Where the measure text begins: behind the first blank, if there is one."""
    return text.index(BLANK) + 1 if BLANK in text else 0


def pieces_of(text):
    """The pieces of the measure text, of which each stands before, between or behind its signs . and /."""
    pieces = []
    start = measure_start(text)
    turned = False
    for place in range(start, len(text)):
        sign = text[place]
        if sign == POINT or sign == SLASH:
            pieces.append(Piece(start, text[start:place], turned))
            start = place + 1
            turned = sign == SLASH
    pieces.append(Piece(start, text[start:], turned))
    return pieces


def first_wrong(pieces):
    """The first piece that is no factor or is one too many, or None."""
    for before, piece in enumerate(pieces):
        if before >= MOST_FACTORS or not is_factor(piece.signs):
            return piece
    return None


def turned_factor(piece):
    factor = factor_of(piece.signs)
    return (factor[0], -factor[1]) if piece.turned else factor


def factors_of(pieces):
    """The factors of pieces of which none is wrong."""
    return [turned_factor(piece) for piece in pieces if piece.signs != [ONE]]


def quantity_of(text):
    """What a quantity text says, or None if it is no quantity text."""
    if len(text) > LONGEST_QUANTITY:
        return None
    number = number_before(text)
    pieces = pieces_of(text)
    if number is None or first_wrong(pieces) is not None:
        return None
    return Quantity(number, factors_of(pieces))
