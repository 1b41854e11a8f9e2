"""The answers to a list of calls on one new book."""

from measurebook.book import Book
from measurebook.calls import call_base, call_convert, call_forget, call_ratio, call_read, call_tell, call_unit


class Tape:
    """The list of calls and the place up to which it has been taken."""

    def __init__(self, calls):
        self.calls = calls
        self.place = 0


def is_at_end(tape):
    return tape.place >= len(tape.calls)


def take_number(tape):
    number = tape.calls[tape.place]
    tape.place = tape.place + 1
    return number


def take_row(tape):
    length = take_number(tape)
    start = tape.place
    tape.place = start + length
    return tape.calls[start:tape.place]


def answer_next(book, tape):
    call = take_number(tape)
    if call == 0:
        return call_base(book, take_row(tape))
    if call == 1:
        name = take_row(tape)
        return call_unit(book, name, take_row(tape))
    if call == 2:
        return call_forget(book, take_row(tape))
    if call == 3:
        return call_read(book, take_row(tape))
    if call == 4:
        return call_tell(book, take_row(tape))
    if call == 5:
        first = take_row(tape)
        return call_ratio(book, first, take_row(tape))
    if call == 6:
        places = take_number(tape)
        first = take_row(tape)
        return call_convert(book, places, first, take_row(tape))
    raise ValueError(f"no call has the number {call}")


def answers(calls):
    tape = Tape(calls)
    book = Book()
    answered = []
    while not is_at_end(tape):
        answer = answer_next(book, tape)
        answered.append(len(answer))
        answered.extend(answer)
    return answered
