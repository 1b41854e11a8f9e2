"""Names of the book found for a worth."""

from measurebook.exact import is_below
from measurebook.worths import are_alike, are_equal, entry_worth


def equal_name(book, worth):
    """The first name whose worth is equal, or None."""
    for name in book.entries:
        if are_equal(entry_worth(book, name), worth):
            return name
    return None


def place_by_ratio(book, names, name):
    """Where the name belongs among names that stand from the smallest ratio to the greatest, behind its equals."""
    ratio = book.entries[name].ratio
    for place, other in enumerate(names):
        if is_below(ratio, book.entries[other].ratio):
            return place
    return len(names)


def alike_names(book, worth):
    """All names whose worth is alike, from the smallest ratio to the greatest."""
    names = []
    for name in book.entries:
        if are_alike(entry_worth(book, name), worth):
            names.insert(place_by_ratio(book, names, name), name)
    return names
