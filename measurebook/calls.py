"""The calls: each one acts on a book and gives back the numbers that it answers."""

from measurebook.book import add_base, add_unit, bases_of, drop, has_all_bases, is_full, is_used
from measurebook.exact import lowest
from measurebook.reading import pair_reading_of, reading_of
from measurebook.refusals import BOOK_FULL, NAME_TAKEN, NO_ENTRY, NO_NAME, OUT_OF_RANGE, STILL_USED
from measurebook.shown import shown_quantity, shown_rounded
from measurebook.texts import is_name

MOST_PLACES = 20


def new_name_refusal(book, text):
    """What base and unit refuse first, or 0."""
    if not is_name(text):
        return NO_NAME
    if tuple(text) in book.entries:
        return NAME_TAKEN
    if is_full(book):
        return BOOK_FULL
    return 0


def call_base(book, name):
    refusal = new_name_refusal(book, name)
    if refusal < 0:
        return [refusal]
    if has_all_bases(book):
        return [BOOK_FULL]
    add_base(book, tuple(name))
    return [0]


def call_unit(book, name, quantity):
    refusal = new_name_refusal(book, name)
    if refusal < 0:
        return [refusal]
    reading = reading_of(book, quantity, False)
    if reading.refusal < 0:
        return [reading.refusal]
    add_unit(book, tuple(name), reading.quantity, reading.worth)
    return [0]


def call_forget(book, name):
    key = tuple(name)
    if key not in book.entries:
        return [NO_ENTRY]
    if is_used(book, key):
        return [STILL_USED]
    drop(book, key)
    return [0]


def call_read(book, quantity):
    reading = reading_of(book, quantity, False)
    if reading.refusal < 0:
        return [reading.refusal]
    ratio = reading.worth.ratio
    return [ratio.top, ratio.bottom] + reading.worth.powers


def call_tell(book, quantity):
    reading = reading_of(book, quantity, False)
    if reading.refusal < 0:
        return [reading.refusal]
    factors = [(base, power) for base, power in zip(bases_of(book), reading.worth.powers) if power != 0]
    return [0] + shown_quantity(reading.worth.ratio, factors)


def call_ratio(book, a, b):
    pair = pair_reading_of(book, a, b, False)
    if pair.refusal < 0:
        return [pair.refusal]
    quotient = lowest(pair.first.top * pair.second.bottom, pair.first.bottom * pair.second.top)
    return [quotient.top, quotient.bottom]


def call_convert(book, places, a, b):
    if places < 0 or places > MOST_PLACES:
        return [OUT_OF_RANGE]
    pair = pair_reading_of(book, a, b, True)
    if pair.refusal < 0:
        return [pair.refusal]
    top = pair.first.top * pair.second.bottom
    bottom = pair.first.bottom * pair.second.top
    return [0] + shown_rounded(top, bottom, places)
