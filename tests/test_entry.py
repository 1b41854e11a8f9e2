"""Promise 14: entry."""

import unittest

from tests.helper import after, one, told, told_unit

FAR = 10 ** 40
BOOK = [("base", "m"), ("base", "s"), ("unit", "km", "1000 m/1")]


class Entry(unittest.TestCase):
    def shown(self, quantity):
        return one(BOOK + [("unit", "u", quantity)], "entry", 3)

    def check(self, texts):
        for quantity, text in texts.items():
            self.assertEqual(self.shown(quantity), told_unit("u=" + text), quantity)

    def test_example_of_the_document(self):
        self.assertEqual(one(BOOK, "entry", 2), told_unit("km=1000 m"))

    def test_bases(self):
        self.assertEqual(after(BOOK, ("entry", 0), ("entry", 1)), [told("m"), told("s")])
        self.assertEqual(one([("base", "long_name_12")], "entry", 0), told("long_name_12"))

    def test_i_at_the_bounds(self):
        calls = [("entry", i) for i in (-10 ** 18, -3, -1, 0, 2, 3, 4, 40, 10 ** 18)]
        self.assertEqual(after(BOOK, *calls), [[-8]] * 3 + [told("m"), told_unit("km=1000 m")] + [[-8]] * 4)

    def test_empty_book(self):
        self.assertEqual(after([], ("entry", 0), ("entry", -1), ("entry", 1)), [[-8], [-8], [-8]])

    def test_numbers(self):
        self.check({"m": "m", "1 m": "m", "5/5 m": "m", "1.0 m": "m", "12 m": "12 m", "6/4 m": "3/2 m", "0.25 m": "1/4 m", "1/2 m": "1/2 m",
                    "007 m": "7 m", f"{FAR - 1}/{FAR - 2} s": f"{FAR - 1}/{FAR - 2} s", "3/1 s": "3 s", "1/3 1/s": "1/3 s^-1"})

    def test_no_factors(self):
        self.check({"1": "1", "1 1": "1", "12 1": "12 1", "1/1.1": "1", "0.5 1/1": "1/2 1"})

    def test_powers(self):
        self.check({"m^1": "m", "m^01": "m", "m^0": "m^0", "m^-0": "m^0", "m^00": "m^0", "1/m^0": "m^0", "m^2": "m^2", "1/m": "m^-1",
                    "m^-1": "m^-1", "1/m^-1": "m", "1/m^-2": "m^2", "m^-99": "m^-99", "s/m^07": "s.m^-7", "m/m^0": "m.m^0"})

    def test_factors_as_they_were_entered(self):
        self.check({"s.m": "s.m", "m.m": "m.m", "m/m": "m.m^-1", "s/km.m": "s.km^-1.m", "1/s/s.1.km^2": "s^-1.s^-1.km^2",
                    "3 km^2/1/m^2.s^0": "3 km^2.m^-2.s^0", "1000 m": "1000 m", "km": "km", "1/1000 km": "1/1000 km"})

    def test_longest(self):
        name = "long_name_12"
        top, bottom = FAR - 1, FAR - 2
        setup = [("base", name), ("unit", "a" * 12, f"{top}/{bottom} " + ".".join([f"{name}^-99/{name}^-99"] * 10))]
        shown = ".".join([name + "^-99", name + "^99"] * 10)
        self.assertEqual(one(setup, "entry", 1), told_unit("a" * 12 + f"={top}/{bottom} {shown}"))

    def test_forty_entries(self):
        setup = [("base", "b")] + [("unit", f"u{i}", f"{i} b^{i % 5}") for i in range(1, 40)]
        calls = [("entry", i) for i in range(41)]
        powers = {0: "^0", 1: "", 2: "^2", 3: "^3", 4: "^4"}
        units = [told_unit(f"u{i}=" + (f"{i} " if i > 1 else "") + "b" + powers[i % 5]) for i in range(1, 40)]
        self.assertEqual(after(setup, *calls), [told("b")] + units + [[-8]])

    def test_after_forget(self):
        setup = BOOK + [("unit", "h", "3600 s"), ("unit", "v", "km/h")]
        self.assertEqual(after(setup, ("entry", 4), ("forget", "v"), ("entry", 4), ("forget", "km"), ("entry", 2), ("entry", 3),
                               ("forget", "m"), ("entry", 0), ("entry", 1), ("base", "m"), ("entry", 2), ("entry", 3)),
                         [told_unit("v=km.h^-1"), [0], [-8], [0], told_unit("h=3600 s"), [-8],
                          [0], told("s"), told_unit("h=3600 s"), [0], told("m"), [-8]])

    def test_refused_units_are_not_there(self):
        self.assertEqual(after(BOOK, ("unit", "x", "y"), ("base", "m"), ("entry", 3), ("entry", 2)),
                         [[-5], [-2], [-8], told_unit("km=1000 m")])

    def test_what_is_shown_can_be_entered(self):
        setup = BOOK + [("unit", "u", "6/4 km/s^2.m^0")]
        text = one(setup, "entry", 3)[3:]
        self.assertEqual(after(setup, ("unit", "w", text), ("entry", 4), ("read", "w"), ("read", "u")),
                         [[0], told_unit("w=3/2 km.s^-2.m^0"), [1500, 1, 1, -2], [1500, 1, 1, -2]])


if __name__ == "__main__":
    unittest.main()
