"""Reading a text as a quantity, or two texts that have to be alike."""

from measurebook.book import knows_all
from measurebook.refusals import NO_QUANTITY, NOT_ABOVE_ZERO, NOT_ALIKE, TOO_FAR, UNKNOWN_NAME
from measurebook.texts import quantity_of
from measurebook.worths import are_alike, worth_of


class Reading:
    """A refusal, or 0 and what was read."""

    def __init__(self, refusal, quantity, worth):
        self.refusal = refusal
        self.quantity = quantity
        self.worth = worth


class PairReading:
    """A refusal, or 0 and the ratios of two texts that are alike."""

    def __init__(self, refusal, first, second):
        self.refusal = refusal
        self.first = first
        self.second = second


def reading_of(book, text, any_number):
    """any_number: whether the number may be 0 or below 0."""
    quantity = quantity_of(text)
    if quantity is None:
        return Reading(NO_QUANTITY, None, None)
    if quantity.number.top <= 0 and not any_number:
        return Reading(NOT_ABOVE_ZERO, None, None)
    if not knows_all(book, quantity.factors):
        return Reading(UNKNOWN_NAME, None, None)
    worth = worth_of(book, quantity)
    if worth is None:
        return Reading(TOO_FAR, None, None)
    return Reading(0, quantity, worth)


def pair_reading_of(book, a, b, any_number):
    """any_number speaks of the first text alone."""
    first = reading_of(book, a, any_number)
    if first.refusal < 0:
        return PairReading(first.refusal, None, None)
    second = reading_of(book, b, False)
    if second.refusal < 0:
        return PairReading(second.refusal, None, None)
    if not are_alike(first.worth, second.worth):
        return PairReading(NOT_ALIKE, None, None)
    return PairReading(0, first.worth.ratio, second.worth.ratio)
