"""Calls written as Python texts, and their answers taken apart again."""

from measurebook.measures import answers

NUMBERS = {"base": 0, "unit": 1, "forget": 2, "read": 3, "tell": 4, "ratio": 5, "convert": 6, "root": 7, "named": 8,
           "kin": 9, "short": 10, "split": 11, "fault": 12, "entry": 13}


def row(text):
    signs = list(text.encode("latin-1")) if isinstance(text, str) else list(text)
    return [len(signs)] + signs


def rows(texts):
    """Each text behind how many bytes it has."""
    return [number for text in texts for number in row(text)]


def argument_numbers(argument):
    if isinstance(argument, int):
        return [argument]
    return row(rows(argument)) if isinstance(argument, tuple) else row(argument)


def encoded(calls):
    """Calls are tuples: the call's name, then its whole numbers, its texts, and for a list of texts a tuple of these."""
    numbers = []
    for call in calls:
        numbers.append(NUMBERS[call[0]])
        for argument in call[1:]:
            numbers.extend(argument_numbers(argument))
    return numbers


def taken_apart(answered):
    parts = []
    place = 0
    while place < len(answered):
        count = answered[place]
        parts.append(answered[place + 1:place + 1 + count])
        if len(parts[-1]) != count:
            raise AssertionError("the answers end too early")
        place += 1 + count
    return parts


def run(*calls):
    """One list of numbers for each call."""
    parts = taken_apart(answers(encoded(calls)))
    if len(parts) != len(calls):
        raise AssertionError(f"{len(calls)} calls but {len(parts)} answers")
    return parts


def told(text):
    """The answer of a call that answers 0 and a text."""
    return [0] + list(text.encode("latin-1"))


def told_unit(text):
    """The answer of entry for a unit."""
    return [1] + list(text.encode("latin-1"))


def told_names(*names):
    """The answer of kin."""
    return [len(names)] + rows(names)


def after(setup, *calls):
    """The answers to the calls that stand behind a setup in which nothing may be refused."""
    parts = run(*setup, *calls)
    for call, part in zip(setup, parts):
        if part != [0]:
            raise AssertionError(f"{call} of the setup answered {part}")
    return parts[len(setup):]


def one(setup, *call):
    return after(setup, call)[0]
