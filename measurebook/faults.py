"""Where a quantity text is wrong: a kind and a place."""

from measurebook.signs import ONE
from measurebook.texts import LONGEST_QUANTITY, factor_of, first_wrong, number_before, pieces_of, quantity_of
from measurebook.worths import worth_of

NO_FAULT = 0
FORM_FAULT = 1
NUMBER_FAULT = 2
NAME_FAULT = 3
WORTH_FAULT = 4


def form_fault(text):
    """The place at which the text stops being a quantity text, or None if it is one."""
    if len(text) > LONGEST_QUANTITY:
        return LONGEST_QUANTITY
    if number_before(text) is None:
        return 0
    wrong = first_wrong(pieces_of(text))
    return None if wrong is None else wrong.start


def is_known(book, piece):
    return piece.signs == [ONE] or factor_of(piece.signs)[0] in book.entries


def name_fault(book, text):
    """The place of the first piece that names what is not in the book, or None."""
    for piece in pieces_of(text):
        if not is_known(book, piece):
            return piece.start
    return None


def fault_of(book, text):
    place = form_fault(text)
    if place is not None:
        return [FORM_FAULT, place]
    quantity = quantity_of(text)
    if quantity.number.top <= 0:
        return [NUMBER_FAULT, 0]
    place = name_fault(book, text)
    if place is not None:
        return [NAME_FAULT, place]
    if worth_of(book, quantity) is None:
        return [WORTH_FAULT, 0]
    return [NO_FAULT, 0]
