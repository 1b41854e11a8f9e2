"""The calls: each one acts on a book and gives back the numbers that it answers."""

from measurebook.book import add_base, add_unit, bases_of, drop, has_all_bases, is_full, is_used
from measurebook.exact import quotient
from measurebook.faults import fault_of
from measurebook.names import alike_names, equal_name
from measurebook.parts import measures_reading_of, parts_of
from measurebook.reading import pair_reading_of, reading_of
from measurebook.refusals import BOOK_FULL, NAME_TAKEN, NO_ENTRY, NO_NAME, NO_ROOT, NONE_FOUND, OUT_OF_RANGE, STILL_USED
from measurebook.roots import worth_root
from measurebook.shortest import shortest_factors
from measurebook.shown import shown_factors, shown_quantity, shown_rounded, shown_unit
from measurebook.texts import is_name

MOST_PLACES = 20
LEAST_ROOT = 2
MOST_ROOT = 9
MOST_MEASURES = 10


def new_name_refusal(book, text):
    """What base and unit refuse first, or 0."""
    if not is_name(text):
        return NO_NAME
    if tuple(text) in book.entries:
        return NAME_TAKEN
    if is_full(book):
        return BOOK_FULL
    return 0


def worth_answer(worth):
    return [worth.ratio.top, worth.ratio.bottom] + worth.powers


def call_base(book, name):
    refusal = new_name_refusal(book, name)
    if refusal < 0:
        return [refusal]
    if has_all_bases(book):
        return [BOOK_FULL]
    add_base(book, tuple(name))
    return [0]


def call_unit(book, name, quantity):
    refusal = new_name_refusal(book, name)
    if refusal < 0:
        return [refusal]
    reading = reading_of(book, quantity, False)
    if reading.refusal < 0:
        return [reading.refusal]
    add_unit(book, tuple(name), reading.quantity, reading.worth)
    return [0]


def call_forget(book, name):
    key = tuple(name)
    if key not in book.entries:
        return [NO_ENTRY]
    if is_used(book, key):
        return [STILL_USED]
    drop(book, key)
    return [0]


def call_read(book, quantity):
    reading = reading_of(book, quantity, False)
    if reading.refusal < 0:
        return [reading.refusal]
    return worth_answer(reading.worth)


def call_tell(book, quantity):
    reading = reading_of(book, quantity, False)
    if reading.refusal < 0:
        return [reading.refusal]
    factors = [(base, power) for base, power in zip(bases_of(book), reading.worth.powers) if power != 0]
    return [0] + shown_quantity(reading.worth.ratio, factors)


def call_ratio(book, a, b):
    pair = pair_reading_of(book, a, b, False)
    if pair.refusal < 0:
        return [pair.refusal]
    answer = quotient(pair.first, pair.second)
    return [answer.top, answer.bottom]


def call_convert(book, places, a, b):
    if places < 0 or places > MOST_PLACES:
        return [OUT_OF_RANGE]
    pair = pair_reading_of(book, a, b, True)
    if pair.refusal < 0:
        return [pair.refusal]
    return [0] + shown_rounded(quotient(pair.first, pair.second), places)


def call_root(book, k, quantity):
    if k < LEAST_ROOT or k > MOST_ROOT:
        return [OUT_OF_RANGE]
    reading = reading_of(book, quantity, False)
    if reading.refusal < 0:
        return [reading.refusal]
    root = worth_root(reading.worth, k)
    return [NO_ROOT] if root is None else worth_answer(root)


def call_named(book, quantity):
    reading = reading_of(book, quantity, False)
    if reading.refusal < 0:
        return [reading.refusal]
    name = equal_name(book, reading.worth)
    return [NONE_FOUND] if name is None else [0] + list(name)


def call_kin(book, quantity):
    reading = reading_of(book, quantity, False)
    if reading.refusal < 0:
        return [reading.refusal]
    names = alike_names(book, reading.worth)
    answer = [len(names)]
    for name in names:
        answer.append(len(name))
        answer.extend(name)
    return answer


def call_short(book, quantity):
    reading = reading_of(book, quantity, False)
    if reading.refusal < 0:
        return [reading.refusal]
    factors = shortest_factors(book, reading.worth)
    return [NONE_FOUND] if factors is None else [0] + shown_factors(factors)


def call_split(book, quantity, measures):
    if len(measures) == 0 or len(measures) > MOST_MEASURES:
        return [OUT_OF_RANGE]
    reading = reading_of(book, quantity, False)
    if reading.refusal < 0:
        return [reading.refusal]
    by = measures_reading_of(book, measures, reading.worth)
    if by.refusal < 0:
        return [by.refusal]
    return [len(measures)] + parts_of(reading.worth.ratio, by.ratios)


def call_fault(book, quantity):
    return fault_of(book, quantity)


def call_entry(book, i):
    if i < 0 or i >= len(book.entries):
        return [NO_ENTRY]
    name = list(book.entries)[i]
    entry = book.entries[name]
    return [0] + list(name) if entry.is_base else [1] + shown_unit(name, entry)
