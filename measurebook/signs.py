"""The signs of a text, and what is asked of single signs."""

BLANK = 32
MINUS = 45
POINT = 46
SLASH = 47
ZERO = 48
ONE = 49
NINE = 57
EQUALS = 61
HAT = 94
UNDERLINE = 95
SMALL_A = 97
SMALL_Z = 122


def is_digit(sign):
    return ZERO <= sign <= NINE


def is_small_letter(sign):
    return SMALL_A <= sign <= SMALL_Z


def is_name_sign(sign):
    return is_small_letter(sign) or is_digit(sign) or sign == UNDERLINE


def are_digits(text):
    """Whether the text is one digit or more and nothing else."""
    return len(text) > 0 and all([is_digit(sign) for sign in text])


def whole_of(digits):
    whole = 0
    for sign in digits:
        whole = whole * 10 + (sign - ZERO)
    return whole


def signs_of(written):
    """The bytes of a Python text."""
    return [ord(letter) for letter in written]
