"""A ratio taken apart by several measures."""

from measurebook.exact import Exact, difference, is_below, quotient
from measurebook.reading import reading_of
from measurebook.refusals import NOT_ALIKE, NOT_BELOW
from measurebook.worths import are_alike


class MeasuresReading:
    """A refusal, or 0 and the ratios of the measures."""

    def __init__(self, refusal, ratios):
        self.refusal = refusal
        self.ratios = ratios


def measures_reading_of(book, texts, worth):
    """The texts read as measures that are alike the worth, each with a smaller ratio than the one before it."""
    ratios = []
    for text in texts:
        reading = reading_of(book, text, False)
        if reading.refusal < 0:
            return MeasuresReading(reading.refusal, None)
        if not are_alike(reading.worth, worth):
            return MeasuresReading(NOT_ALIKE, None)
        if len(ratios) > 0 and not is_below(reading.worth.ratio, ratios[-1]):
            return MeasuresReading(NOT_BELOW, None)
        ratios.append(reading.worth.ratio)
    return MeasuresReading(0, ratios)


def parts_of(whole, ratios):
    """The whole part for each ratio but the last, then the numerator and the denominator of the last part."""
    parts = []
    left = whole
    for ratio in ratios[:-1]:
        times = quotient(left, ratio)
        part = times.top // times.bottom
        parts.append(part)
        left = difference(left, Exact(part * ratio.top, ratio.bottom))
    last = quotient(left, ratios[-1])
    return parts + [last.top, last.bottom]
