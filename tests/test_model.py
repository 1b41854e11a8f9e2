"""Many lists of calls, answered by the program and by a plain model made from the document in another way.

The lists are made from fixed seeds, so each run asks the same.
"""

import itertools
import random
import re
import unittest
from decimal import ROUND_HALF_EVEN, Context, Decimal
from fractions import Fraction

from measurebook.measures import answers
from tests.helper import encoded, taken_apart

FAR = 10 ** 40
POWERS = (1, -1, 2, -2, 3, -3)
NAME = r"[a-z][a-z0-9_]{0,11}"
NUMBER = re.compile(r"(-?)([0-9]+)(?:/([0-9]+)|\.([0-9]+))?")
FACTOR = re.compile(rf"1|({NAME})(?:\^(-?[0-9]{{1,2}}))?")


class Refused(Exception):
    pass


def refuse_if(wrong, refusal):
    if wrong:
        raise Refused(refusal)


def is_far(number):
    return abs(number.numerator) >= FAR or number.denominator >= FAR


def number_in(text):
    found = NUMBER.fullmatch(text)
    refuse_if(not found or len(text) > 90, -4)
    minus, whole, under, behind = found.groups()
    refuse_if(under is not None and int(under) == 0, -4)
    number = Fraction(int(whole), int(under)) if under else Fraction(whole + "." + (behind or "0"))
    refuse_if(is_far(number), -4)
    return -number if minus else number


def is_number(text):
    try:
        number_in(text)
    except Refused:
        return False
    return True


def whole_root(number, k):
    """Bit by bit from the highest, 0 if there is none."""
    root = 0
    for bit in reversed(range(140 // k)):
        if (root + 2 ** bit) ** k <= number:
            root += 2 ** bit
    return root if root ** k == number else 0


def shown(factors):
    return ".".join(name if power == 1 else f"{name}^{power}" for name, power in factors) or "1"


class Model:
    """The worth of a text is found anew each time, down to the bases."""

    def __init__(self):
        self.entries = []

    def names(self):
        return [name for name, made in self.entries]

    def bases(self):
        return [name for name, made in self.entries if made is None]

    def parse(self, text):
        refuse_if(len(text) > 500, -4)
        before, blank, behind = text.partition(" ")
        number = number_in(before) if blank else Fraction(1)
        parts = re.split(r"([./])", behind if blank else text)
        refuse_if(len(parts) > 39, -4)
        factors = []
        for i in range(0, len(parts), 2):
            found = FACTOR.fullmatch(parts[i])
            refuse_if(not found, -4)
            power = int(found[2] or "1")
            if found[1]:
                factors.append((found[1], -power if i > 0 and parts[i - 1] == "/" else power))
        return number, factors

    def worth(self, number, factors):
        ratio = number
        powers = dict.fromkeys(self.bases(), 0)
        made = dict(self.entries)
        for name, power in factors:
            if made[name] is None:
                powers[name] += power
            else:
                inner, inner_powers = self.worth(*made[name])
                ratio *= inner ** power
                for base in powers:
                    powers[base] += power * inner_powers[base]
        return ratio, powers

    def reading(self, text, any_number=False):
        number, factors = self.parse(text)
        refuse_if(number <= 0 and not any_number, -6)
        refuse_if(any(name not in self.names() for name, power in factors), -5)
        ratio, powers = self.worth(number, factors)
        refuse_if(is_far(ratio) or any(abs(power) > 99 for power in powers.values()), -7)
        return ratio, powers

    def new_name(self, name):
        refuse_if(not re.fullmatch(NAME, name), -1)
        refuse_if(name in self.names(), -2)
        refuse_if(len(self.entries) >= 40, -3)

    def base(self, name):
        self.new_name(name)
        refuse_if(len(self.bases()) >= 8, -3)
        self.entries.append((name, None))
        return [0]

    def unit(self, name, text):
        self.new_name(name)
        self.reading(text)
        self.entries.append((name, self.parse(text)))
        return [0]

    def forget(self, name):
        refuse_if(name not in self.names(), -8)
        used = [factor for entry, made in self.entries if made for factor, power in made[1]]
        refuse_if(name in used, -9)
        self.entries = [entry for entry in self.entries if entry[0] != name]
        return [0]

    def read(self, text):
        ratio, powers = self.reading(text)
        return [ratio.numerator, ratio.denominator, *powers.values()]

    def tell(self, text):
        ratio, powers = self.reading(text)
        measure = shown([(base, power) for base, power in powers.items() if power])
        return [0, *(measure if ratio == 1 else f"{ratio} {measure}").encode()]

    def quotient(self, a, b, any_number):
        ratio_a, powers_a = self.reading(a, any_number)
        ratio_b, powers_b = self.reading(b)
        refuse_if(powers_a != powers_b, -10)
        return ratio_a / ratio_b

    def ratio(self, a, b):
        quotient = self.quotient(a, b, False)
        return [quotient.numerator, quotient.denominator]

    def convert(self, places, a, b):
        refuse_if(not 0 <= places <= 20, -13)
        rounded = round(self.quotient(a, b, True) * 10 ** places)
        wide = Context(prec=200, rounding=ROUND_HALF_EVEN)
        value = Decimal(rounded).scaleb(-places, wide)
        return [0, *(f"{value:f}" if rounded else f"{abs(value):f}").encode()]

    def root(self, k, text):
        refuse_if(k not in range(2, 10), -13)
        ratio, powers = self.reading(text)
        top, bottom = whole_root(ratio.numerator, k), whole_root(ratio.denominator, k)
        refuse_if(top * bottom == 0 or any(power % k for power in powers.values()), -11)
        return [top, bottom, *(power // k for power in powers.values())]

    def named(self, text):
        worth = self.reading(text)
        equal = [name for name in self.names() if self.worth(1, [(name, 1)]) == worth]
        refuse_if(not equal, -12)
        return [0, *equal[0].encode()]

    def kin(self, text):
        powers = self.reading(text)[1]
        worths = {name: self.worth(1, [(name, 1)]) for name in self.names()}
        names = sorted((name for name in worths if worths[name][1] == powers), key=lambda name: worths[name][0])
        return [len(names), *(number for name in names for number in (len(name), *name.encode()))]

    def short_candidates(self):
        names = self.names()
        for name in names:
            yield from ([(name, i)] for i in POWERS)
        for x, y in itertools.combinations(names, 2):
            yield from ([(x, i), (y, j)] for i in POWERS for j in POWERS)

    def short(self, text):
        ratio, powers = self.reading(text)
        if ratio == 1 and not any(powers.values()):
            return [0, 49]
        worths = {name: self.worth(Fraction(1), [(name, 1)]) for name in self.names()}
        for factors in self.short_candidates():
            alike = all(sum(worths[name][1][base] * i for name, i in factors) == powers[base] for base in powers)
            if alike and self.worth(Fraction(1), factors)[0] == ratio:
                return [0, *shown(factors).encode()]
        raise Refused(-12)

    def split(self, text, measures):
        refuse_if(len(measures) not in range(1, 11), -13)
        left, powers = self.reading(text)
        ratios = []
        for measure in measures:
            ratio, other_powers = self.reading(measure)
            refuse_if(other_powers != powers, -10)
            refuse_if(ratios and ratio >= ratios[-1], -14)
            ratios.append(ratio)
        parts = []
        for ratio in ratios[:-1]:
            part, left = divmod(left, ratio)
            parts.append(part)
        last = left / ratios[-1]
        return [len(ratios), *parts, last.numerator, last.denominator]

    def fault(self, text):
        if len(text) > 500:
            return [1, 500]
        before, blank, behind = text.partition(" ")
        if blank and not is_number(before):
            return [1, 0]
        measure = behind if blank else text
        starts = [0] + [found.end() for found in re.finditer("[./]", measure)]
        pieces = re.split("[./]", measure)
        offset = len(text) - len(measure)
        for i, (start, piece) in enumerate(zip(starts, pieces)):
            if i == 20 or not FACTOR.fullmatch(piece):
                return [1, offset + start]
        if blank and number_in(before) <= 0:
            return [2, 0]
        for start, piece in zip(starts, pieces):
            if piece != "1" and piece.split("^")[0] not in self.names():
                return [3, offset + start]
        try:
            self.reading(text)
        except Refused:
            return [4, 0]
        return [0, 0]

    def entry(self, i):
        refuse_if(i not in range(len(self.entries)), -8)
        name, made = self.entries[i]
        if made is None:
            return [0, *name.encode()]
        number = "" if made[0] == 1 else f"{made[0]} "
        return [1, *f"{name}={number}{shown(made[1])}".encode()]

    def answer(self, call):
        try:
            return getattr(self, call[0])(*call[1:])
        except Refused as refused:
            return [refused.args[0]]


class Maker:
    """Makes calls, most of them good, some spoiled in one sign."""

    names = ("m", "s", "kg", "a", "b", "c", "km", "h_2", "long_name_12", "n0")

    def __init__(self, seed):
        self.chance = random.Random(seed)
        self.model = Model()
        self.calls = []
        self.answers = []

    def make(self, call):
        """Adds the call and the model's answer to it."""
        self.calls.append(call)
        self.answers.append(self.model.answer(call))

    def make_book(self):
        for call in (("base", "m"), ("base", "s"), ("unit", "km", "1000 m"), ("unit", "h_2", "3600 s"), ("unit", "n0", "12 1")):
            self.make(call)

    def spoiled(self, text):
        if self.chance.random() > 0.06:
            return text
        place = self.chance.randrange(len(text) + 1)
        sign = self.chance.choice("./^- 1a0_A\x00\xff")
        return text[:place] + self.chance.choice(("", sign)) + text[place + self.chance.randrange(2):]

    def whole(self):
        return self.chance.choice((0, 1, 1, 2, 3, 5, 6, 10, 12, 60, 125, 1000, 10 ** 13, 10 ** 20, FAR // 7, FAR - 1, FAR))

    def number(self):
        kind = self.chance.randrange(4)
        minus = "-" if self.chance.random() < 0.1 else ""
        if kind == 0:
            return f"{minus}{self.whole()}/{self.whole()}"
        if kind == 1:
            return f"{minus}{self.whole()}.{self.chance.choice(('0', '5', '25', '125', '000', '004', '35'))}"
        return f"{minus}{self.chance.choice(('', '', '0'))}{self.whole()}"

    def name(self):
        return self.chance.choice(self.names)

    def known(self):
        """A name of the book, but for a few times."""
        names = self.model.names()
        return self.chance.choice(names) if names and self.chance.random() < 0.96 else self.name()

    def factor(self):
        kind = self.chance.randrange(10)
        if kind == 0:
            return "1"
        if kind < 6:
            return self.known()
        if kind < 9:
            return f"{self.known()}^{self.chance.choice((0, 1, -1, 2, -2, 3, '-0', '02'))}"
        return f"{self.known()}^{self.chance.randint(-99, 99)}"

    def measure(self):
        text = self.factor()
        for i in range(self.chance.choice((0, 0, 0, 1, 1, 2, 3, 5))):
            text += self.chance.choice("./") + self.factor()
        return text

    def quantity(self):
        text = self.measure()
        if self.chance.random() < 0.6:
            text = f"{self.number()} {text}"
        return self.spoiled(text)

    def alike(self):
        measure = self.measure()
        return [self.spoiled(f"{self.number()} {measure}"), self.spoiled(f"{self.number()} {measure}")]

    def pair(self):
        return self.alike() if self.chance.random() < 0.7 else [self.quantity(), self.quantity()]

    def measure_of_powers(self, powers):
        return ".".join(f"{self.known()}^{self.chance.choice(powers)}" for i in range(self.chance.choice((1, 1, 2, 3))))

    def root(self):
        k = self.chance.choice((2, 2, 2, 3, 3, 4, 5, 9))
        top, bottom = self.chance.choice((1, 2, 3, 6, 10 ** 4)), self.chance.choice((1, 1, 2, 5))
        near = self.chance.choice((0, 0, 0, 0, 1))
        text = f"{top ** k + near}/{bottom ** k} {self.measure_of_powers((0, k, -k, 2 * k))}"
        other = self.chance.choice((k, k, k, k, k, k, 1, 10, 0, -2, 2, 3))
        return ("root", other, self.spoiled(self.chance.choice((text, text, text, self.quantity()))))

    def split(self):
        measure = self.measure()
        count = self.chance.choice((0, 1, 1, 2, 2, 3, 3, 4, 10, 11))
        numbers = [Fraction(self.chance.randrange(1, 500), self.chance.randrange(1, 9)) for i in range(count)]
        if self.chance.random() < 0.9:
            numbers = sorted(numbers, reverse=True)
        measures = [self.spoiled(f"{number} {measure}") for number in numbers]
        if measures and self.chance.random() < 0.1:
            measures[self.chance.randrange(count)] = self.quantity()
        quantity = f"{Fraction(self.chance.randrange(1, 9000), self.chance.randrange(1, 9))} {measure}"
        return ("split", self.chance.choice((quantity, quantity, quantity, quantity, self.quantity())), tuple(measures))

    def short(self):
        small = self.measure_of_powers((1, 1, 1, -1, -1, 2, -2, 3, -3, 0))
        return ("short", self.chance.choice((self.spoiled(small), self.spoiled(small), self.quantity())))

    def fault(self):
        text = self.spoiled(self.spoiled(self.spoiled(self.quantity())))
        if self.chance.random() < 0.1:
            text += "".join(self.chance.choice("./") + self.factor() for i in range(self.chance.choice((17, 18, 19, 20, 40, 140))))
        return ("fault", text)

    def call(self):
        kind = self.chance.choice(("base", "unit", "unit", "unit", "forget", "read", "tell", "ratio", "convert", "convert",
                                   "root", "named", "kin", "short", "split", "fault", "entry"))
        if kind in ("base", "forget"):
            return (kind, self.spoiled(self.name()))
        if kind == "unit":
            return (kind, self.spoiled(self.name()), self.quantity())
        if kind in ("read", "tell", "named", "kin"):
            return (kind, self.quantity())
        if kind == "ratio":
            return (kind, *self.pair())
        if kind == "convert":
            return (kind, self.chance.choice((-1, 0, 0, 1, 1, 2, 3, 20, 21)), *self.pair())
        if kind == "entry":
            return (kind, self.chance.randrange(-1, 11))
        return getattr(self, kind)()

    def make_crowded_book(self):
        """Many units that are alike or equal."""
        for name in ("m", "s"):
            self.make(("base", name))
        for i in range(self.chance.randrange(4, 14)):
            number = self.chance.choice(("1", "2", "4", "8", "1/2", "1/4", "3", "6", "9", "1/3", "2/3"))
            measure = self.chance.choice(("1", "m", "s", "m^2", "1/s", "m/s", "m.s", "m^2/s", "m^3"))
            self.make(("unit", f"u{i}", f"{number} {measure}"))

    def crowded_quantity(self):
        text = ".".join(f"{self.known()}^{self.chance.choice(POWERS)}" for i in range(self.chance.choice((1, 2, 2, 2, 3))))
        return self.chance.choice((text, text, "2 " + text))


class AgainstTheModel(unittest.TestCase):
    def check(self, maker, remark):
        answered = taken_apart(answers(encoded(maker.calls)))
        self.assertEqual(len(answered), len(maker.calls))
        for place, call in enumerate(maker.calls):
            self.assertEqual(answered[place], maker.answers[place], f"{remark}, place {place}: {call}")

    def test_many_lists(self):
        seen = {}
        for seed in range(300):
            maker = Maker(seed)
            maker.make_book()
            for i in range(120):
                maker.make(maker.call())
            self.check(maker, f"seed {seed}")
            for call, answer in zip(maker.calls, maker.answers):
                key = (call[0], answer[0] if call[0] == "fault" else min(answer[0], 0))
                seen[key] = seen.get(key, 0) + 1
        reading = (0, -4, -5, -6, -7)
        for kind, firsts in {"base": (0, -1, -2), "unit": (*reading, -1, -2), "forget": (0, -8, -9), "read": reading, "tell": reading,
                             "ratio": (*reading, -10), "convert": (*reading, -10, -13), "root": (*reading, -11, -13),
                             "named": (*reading, -12), "kin": reading, "short": (*reading, -12), "split": (*reading, -10, -13, -14),
                             "fault": (0, 1, 2, 3, 4), "entry": (0, -8)}.items():
            for first in firsts:
                self.assertGreater(seen.get((kind, first), 0), 10, (kind, first))

    def test_crowded_books(self):
        for seed in range(100):
            maker = Maker(seed)
            maker.make_crowded_book()
            for i in range(20):
                maker.make(("short", maker.crowded_quantity()))
                maker.make(("kin", maker.crowded_quantity()))
                maker.make(("named", maker.known()))
                maker.make(("root", 2, maker.crowded_quantity()))
                maker.make(("split", maker.crowded_quantity(), (maker.known(), maker.known())))
            self.check(maker, f"seed {seed}")

    def test_longest_lists(self):
        for seed in range(1000, 1010):
            maker = Maker(seed)
            maker.make_book()
            while len(maker.calls) < 399:
                maker.make(maker.call())
            room = 17000 - len(encoded(maker.calls))
            maker.make(("fault", "m" * (room - 2)))
            self.assertEqual((len(maker.calls), len(encoded(maker.calls))), (400, 17000))
            self.check(maker, f"seed {seed}")


if __name__ == "__main__":
    unittest.main()
