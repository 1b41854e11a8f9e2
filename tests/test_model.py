"""Many lists of calls, answered by the program and by a plain model made from the document in another way.

The lists are made from fixed seeds, so each run asks the same.
"""

import random
import re
import unittest
from decimal import ROUND_HALF_EVEN, Context, Decimal
from fractions import Fraction

from measurebook.measures import answers
from tests.helper import encoded, taken_apart

FAR = 10 ** 40
NAME = r"[a-z][a-z0-9_]{0,11}"
NUMBER = re.compile(r"(-?)([0-9]+)(?:/([0-9]+)|\.([0-9]+))?")
FACTOR = re.compile(rf"1|({NAME})(?:\^(-?[0-9]{{1,2}}))?")


class Refused(Exception):
    pass


def refuse_if(wrong, refusal):
    if wrong:
        raise Refused(refusal)


def is_far(number):
    return abs(number.numerator) >= FAR or number.denominator >= FAR


def number_in(text):
    found = NUMBER.fullmatch(text)
    refuse_if(not found or len(text) > 90, -4)
    minus, whole, under, behind = found.groups()
    refuse_if(under is not None and int(under) == 0, -4)
    number = Fraction(int(whole), int(under)) if under else Fraction(whole + "." + (behind or "0"))
    refuse_if(is_far(number), -4)
    return -number if minus else number


class Model:
    """The worth of a text is found anew each time, down to the bases."""

    def __init__(self):
        self.entries = []

    def names(self):
        return [name for name, made in self.entries]

    def bases(self):
        return [name for name, made in self.entries if made is None]

    def parse(self, text):
        refuse_if(len(text) > 500, -4)
        before, blank, behind = text.partition(" ")
        number = number_in(before) if blank else Fraction(1)
        parts = re.split(r"([./])", behind if blank else text)
        refuse_if(len(parts) > 39, -4)
        factors = []
        for i in range(0, len(parts), 2):
            found = FACTOR.fullmatch(parts[i])
            refuse_if(not found, -4)
            power = int(found[2] or "1")
            if found[1]:
                factors.append((found[1], -power if i > 0 and parts[i - 1] == "/" else power))
        return number, factors

    def worth(self, number, factors):
        ratio = number
        powers = dict.fromkeys(self.bases(), 0)
        made = dict(self.entries)
        for name, power in factors:
            if made[name] is None:
                powers[name] += power
            else:
                inner, inner_powers = self.worth(*made[name])
                ratio *= inner ** power
                for base in powers:
                    powers[base] += power * inner_powers[base]
        return ratio, powers

    def reading(self, text, any_number=False):
        number, factors = self.parse(text)
        refuse_if(number <= 0 and not any_number, -6)
        refuse_if(any(name not in self.names() for name, power in factors), -5)
        ratio, powers = self.worth(number, factors)
        refuse_if(is_far(ratio) or any(abs(power) > 99 for power in powers.values()), -7)
        return ratio, powers

    def new_name(self, name):
        refuse_if(not re.fullmatch(NAME, name), -1)
        refuse_if(name in self.names(), -2)
        refuse_if(len(self.entries) >= 40, -3)

    def base(self, name):
        self.new_name(name)
        refuse_if(len(self.bases()) >= 8, -3)
        self.entries.append((name, None))
        return [0]

    def unit(self, name, text):
        self.new_name(name)
        self.reading(text)
        self.entries.append((name, self.parse(text)))
        return [0]

    def forget(self, name):
        refuse_if(name not in self.names(), -8)
        used = [factor for entry, made in self.entries if made for factor, power in made[1]]
        refuse_if(name in used, -9)
        self.entries = [entry for entry in self.entries if entry[0] != name]
        return [0]

    def read(self, text):
        ratio, powers = self.reading(text)
        return [ratio.numerator, ratio.denominator, *powers.values()]

    def tell(self, text):
        ratio, powers = self.reading(text)
        shown = [base if power == 1 else f"{base}^{power}" for base, power in powers.items() if power]
        measure = ".".join(shown) or "1"
        return [0, *(measure if ratio == 1 else f"{ratio} {measure}").encode()]

    def quotient(self, a, b, any_number):
        ratio_a, powers_a = self.reading(a, any_number)
        ratio_b, powers_b = self.reading(b)
        refuse_if(powers_a != powers_b, -10)
        return ratio_a / ratio_b

    def ratio(self, a, b):
        quotient = self.quotient(a, b, False)
        return [quotient.numerator, quotient.denominator]

    def convert(self, places, a, b):
        refuse_if(not 0 <= places <= 20, -13)
        rounded = round(self.quotient(a, b, True) * 10 ** places)
        wide = Context(prec=200, rounding=ROUND_HALF_EVEN)
        value = Decimal(rounded).scaleb(-places, wide)
        return [0, *(f"{value:f}" if rounded else f"{abs(value):f}").encode()]

    def answer(self, call):
        try:
            return getattr(self, call[0])(*call[1:])
        except Refused as refused:
            return [refused.args[0]]


class Maker:
    """Makes calls, most of them good, some spoiled in one sign."""

    names = ("m", "s", "kg", "a", "b", "c", "km", "h_2", "long_name_12", "n0")

    def __init__(self, seed):
        self.chance = random.Random(seed)

    def spoiled(self, text):
        if self.chance.random() > 0.06:
            return text
        place = self.chance.randrange(len(text) + 1)
        sign = self.chance.choice("./^- 1a0_A\x00\xff")
        return text[:place] + self.chance.choice(("", sign)) + text[place + self.chance.randrange(2):]

    def whole(self):
        return self.chance.choice((0, 1, 1, 2, 3, 5, 6, 10, 12, 60, 125, 1000, 10 ** 13, 10 ** 20, FAR // 7, FAR - 1, FAR))

    def number(self):
        kind = self.chance.randrange(4)
        minus = "-" if self.chance.random() < 0.1 else ""
        if kind == 0:
            return f"{minus}{self.whole()}/{self.whole()}"
        if kind == 1:
            return f"{minus}{self.whole()}.{self.chance.choice(('0', '5', '25', '125', '000', '004', '35'))}"
        return f"{minus}{self.chance.choice(('', '', '0'))}{self.whole()}"

    def name(self):
        return self.chance.choice(self.names)

    def factor(self):
        kind = self.chance.randrange(10)
        if kind == 0:
            return "1"
        if kind < 6:
            return self.name()
        if kind < 9:
            return f"{self.name()}^{self.chance.choice((0, 1, -1, 2, -2, 3, '-0', '02'))}"
        return f"{self.name()}^{self.chance.randint(-99, 99)}"

    def measure(self):
        text = self.factor()
        for i in range(self.chance.choice((0, 0, 0, 1, 1, 2, 3, 5))):
            text += self.chance.choice("./") + self.factor()
        return text

    def quantity(self):
        text = self.measure()
        if self.chance.random() < 0.6:
            text = f"{self.number()} {text}"
        return self.spoiled(text)

    def alike(self):
        measure = self.measure()
        return [self.spoiled(f"{self.number()} {measure}"), self.spoiled(f"{self.number()} {measure}")]

    def pair(self):
        return self.alike() if self.chance.random() < 0.7 else [self.quantity(), self.quantity()]

    def call(self):
        kind = self.chance.choice(("base", "unit", "unit", "forget", "read", "tell", "ratio", "convert", "convert"))
        if kind in ("base", "forget"):
            return (kind, self.spoiled(self.name()))
        if kind == "unit":
            return (kind, self.spoiled(self.name()), self.quantity())
        if kind in ("read", "tell"):
            return (kind, self.quantity())
        if kind == "ratio":
            return (kind, *self.pair())
        return (kind, self.chance.choice((-1, 0, 0, 1, 1, 2, 3, 20, 21)), *self.pair())


class AgainstTheModel(unittest.TestCase):
    def test_many_lists(self):
        seen = {}
        for seed in range(400):
            maker = Maker(seed)
            calls = [("base", "m"), ("base", "s"), ("unit", "km", "1000 m")] + [maker.call() for i in range(120)]
            model = Model()
            answered = taken_apart(answers(encoded(calls)))
            self.assertEqual(len(answered), len(calls))
            for place, call in enumerate(calls):
                expected = model.answer(call)
                self.assertEqual(answered[place], expected, f"seed {seed}, place {place}: {call}")
                key = (call[0], min(expected[0], 0))
                seen[key] = seen.get(key, 0) + 1
        for kind, refusals in {"base": (0, -1, -2), "unit": (0, -1, -2, -4, -5, -6, -7), "forget": (0, -8, -9),
                               "read": (0, -4, -5, -6, -7), "tell": (0, -4, -5, -6, -7), "ratio": (0, -4, -5, -6, -7, -10),
                               "convert": (0, -4, -5, -6, -7, -10, -13)}.items():
            for refusal in refusals:
                self.assertGreater(seen.get((kind, refusal), 0), 10, (kind, refusal))


if __name__ == "__main__":
    unittest.main()
