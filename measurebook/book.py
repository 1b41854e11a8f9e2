"""The book: its entries, and what is asked of them by name."""

from measurebook.exact import Exact

MOST_BASES = 8
MOST_ENTRIES = 40


class Entry:
    """A base, which has no number and no factors, or a unit.

    Its worth is kept as ratio and powers, the powers under the names of the bases. It stays
    true as long as the entry is in the book, since nothing that it is made of can be forgotten before it.
    """

    def __init__(self, is_base, number, factors, ratio, powers):
        self.is_base = is_base
        self.number = number
        self.factors = factors
        self.ratio = ratio
        self.powers = powers


class Book:
    """The entries under their names, in the order in which they came into the book."""

    def __init__(self):
        self.entries = {}


def bases_of(book):
    return [name for name, entry in book.entries.items() if entry.is_base]


def is_full(book):
    return len(book.entries) >= MOST_ENTRIES


def has_all_bases(book):
    return len(bases_of(book)) >= MOST_BASES


def knows_all(book, factors):
    return all([name in book.entries for name, power in factors])


def names_factor(entry, name):
    return any([factor[0] == name for factor in entry.factors])


def is_used(book, name):
    return any([names_factor(entry, name) for entry in book.entries.values()])


def add_base(book, name):
    book.entries[name] = Entry(True, None, [], Exact(1, 1), {name: 1})


def add_unit(book, name, quantity, worth):
    powers = dict(zip(bases_of(book), worth.powers))
    book.entries[name] = Entry(False, quantity.number, quantity.factors, worth.ratio, powers)


def drop(book, name):
    book.entries.pop(name)
