"""The answers to a list of calls on one new book."""

from measurebook.book import Book
from measurebook.calls import call_base, call_convert, call_entry, call_fault, call_forget, call_kin, call_named
from measurebook.calls import call_ratio, call_read, call_root, call_short, call_split, call_tell, call_unit

BASE = 0
UNIT = 1
FORGET = 2
READ = 3
TELL = 4
RATIO = 5
CONVERT = 6
ROOT = 7
NAMED = 8
KIN = 9
SHORT = 10
SPLIT = 11
FAULT = 12
ENTRY = 13


class Tape:
    """A list of numbers and the place up to which it has been taken."""

    def __init__(self, numbers):
        self.numbers = numbers
        self.place = 0


def is_at_end(tape):
    return tape.place >= len(tape.numbers)


def take_number(tape):
    number = tape.numbers[tape.place]
    tape.place = tape.place + 1
    return number


def take_row(tape):
    length = take_number(tape)
    start = tape.place
    tape.place = start + length
    return tape.numbers[start:tape.place]


def take_texts(tape):
    """A row that is itself made of rows."""
    inner = Tape(take_row(tape))
    texts = []
    while not is_at_end(inner):
        texts.append(take_row(inner))
    return texts


def answer_to_text(book, call, text):
    """The answer of a call to which one text and nothing else is handed in."""
    if call == BASE:
        return call_base(book, text)
    if call == FORGET:
        return call_forget(book, text)
    if call == READ:
        return call_read(book, text)
    if call == TELL:
        return call_tell(book, text)
    if call == NAMED:
        return call_named(book, text)
    if call == KIN:
        return call_kin(book, text)
    if call == SHORT:
        return call_short(book, text)
    if call == FAULT:
        return call_fault(book, text)
    raise ValueError(f"no call has the number {call}")


def answer_next(book, tape):
    call = take_number(tape)
    if call == ENTRY:
        return call_entry(book, take_number(tape))
    if call == ROOT:
        k = take_number(tape)
        return call_root(book, k, take_row(tape))
    if call == CONVERT:
        places = take_number(tape)
        a = take_row(tape)
        return call_convert(book, places, a, take_row(tape))
    first = take_row(tape)
    if call == UNIT:
        return call_unit(book, first, take_row(tape))
    if call == RATIO:
        return call_ratio(book, first, take_row(tape))
    if call == SPLIT:
        return call_split(book, first, take_texts(tape))
    return answer_to_text(book, call, first)


def answers(calls):
    tape = Tape(calls)
    book = Book()
    answered = []
    while not is_at_end(tape):
        answer = answer_next(book, tape)
        answered.append(len(answer))
        answered.extend(answer)
    return answered
