"""The fewest factors that come to a worth."""

from measurebook.worths import entry_worth, is_plain_one, raised, without

# in the order in which they are tried
POWERS = (1, -1, 2, -2, 3, -3)


class Tried:
    """A name of the book, its worth to each power, and under each of these worths the first power that gives it."""

    def __init__(self, name, worths, powers):
        self.name = name
        self.worths = worths
        self.powers = powers


def key_of(worth):
    """What is the same for equal worths alone."""
    return (worth.ratio.top, worth.ratio.bottom, tuple(worth.powers))


def tried_of(book, name):
    single = entry_worth(book, name)
    worths = [raised(single, power) for power in POWERS]
    powers = {}
    for power, worth in zip(POWERS, worths):
        powers.setdefault(key_of(worth), power)
    return Tried(name, worths, powers)


def one_factor(all_tried, worth):
    key = key_of(worth)
    for tried in all_tried:
        if key in tried.powers:
            return [(tried.name, tried.powers[key])]
    return None


def two_factors(all_tried, worth):
    for place, first in enumerate(all_tried):
        # What the second factor has to come to, for each power of the first.
        rests = [key_of(without(worth, part)) for part in first.worths]
        for second in all_tried[place + 1:]:
            for power, rest in zip(POWERS, rests):
                if rest in second.powers:
                    return [(first.name, power), (second.name, second.powers[rest])]
    return None


def shortest_factors(book, worth):
    """The factors, or None if no two names of the book come to the worth."""
    if is_plain_one(worth):
        return []
    all_tried = [tried_of(book, name) for name in book.entries]
    single = one_factor(all_tried, worth)
    return two_factors(all_tried, worth) if single is None else single
