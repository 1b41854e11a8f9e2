"""Promise 13: fault."""

import unittest

from tests.helper import after, one

FAR = 10 ** 40
BOOK = [("base", "m"), ("base", "s"), ("unit", "km", "1000 m")]
GREAT = [("unit", "a", f"{FAR - 1}/{FAR - 2} 1"), ("unit", "b", f"{FAR - 3}/{FAR - 7} 1")]


class Fault(unittest.TestCase):
    def check(self, faults):
        answered = after(BOOK, *[("fault", text) for text in faults])
        for text, answer in zip(faults, answered):
            self.assertEqual(answer, list(faults[text]), text[:60])

    def test_examples_of_the_document(self):
        self.check({"3 m//s": (1, 4), "": (1, 0), "m/": (1, 2)})

    def test_nothing_wrong(self):
        self.check(dict.fromkeys(("1", "m", "3 m", "5 km/s^2", "1/s", "m^99", "m^-99", "0.5 m^0/1", "1/1.1/1", f"{FAR - 1} m",
                                  f"1/{FAR - 1} 1", "km^50/km^49", ".".join(["m"] * 20), "7/1 " + "/".join(["1"] * 20)), (0, 0)))
        self.assertEqual(one([], "fault", "5 1"), [0, 0])

    def test_five_hundred_bytes(self):
        self.check({"m" * 500: (1, 0), "m" * 501: (1, 500), "m" * 10000: (1, 500), "1 " + "m" * 498: (1, 2), "1 " + "m" * 499: (1, 500),
                    "0" * 500: (1, 0), " " * 500: (1, 0), " " * 501: (1, 500), "0" * 400 + " " + "m" * 99: (1, 0),
                    "0" * 400 + " " + "m" * 100: (1, 500), "m." * 250: (1, 40), "m." * 250 + "m": (1, 500), "0 " + "x" * 499: (1, 500)})

    def test_blank_without_number(self):
        self.check({" m": (1, 0), " ": (1, 0), "  m": (1, 0), "m s": (1, 0), "m ": (1, 0), "- m": (1, 0), "1/0 m": (1, 0), "1. m": (1, 0),
                    ".5 m": (1, 0), "1/2/3 m": (1, 0), "3m m": (1, 0), f"{FAR} m": (1, 0), f"1/{FAR} m": (1, 0), "0" * 91 + " m": (1, 0),
                    "x /": (1, 0), "m/ s": (1, 0), "m//s 3": (1, 0), "x.y z": (1, 0)})
        self.check({"0" * 89 + "1 m": (0, 0), f"{FAR - 1} m": (0, 0)})

    def test_second_blank(self):
        self.check({"3  m": (1, 2), "3 m ": (1, 2), "3 m s": (1, 2), "3 s.m ": (1, 4), "3 s/ m": (1, 4), "3 m.4 s": (1, 4), "3 ": (1, 2)})

    def test_first_wrong_piece(self):
        self.check({"M": (1, 0), "m.M": (1, 2), "m.s.2": (1, 4), "km/11/s": (1, 3), "km^3.s^": (1, 5), "m^100": (1, 0), "s.m^007.s": (1, 2),
                    "m.1^2": (1, 2), "m.-1": (1, 2), "m.a-b/C": (1, 2), "s/" + "a" * 13: (1, 2), "A.B.C": (1, 0), "m.\x00": (1, 2),
                    "m/\xff.m": (1, 2), "3": (1, 0), "-3": (1, 0), "3.5": (1, 0), "m.3.5": (1, 2), "1/2": (1, 2), "m^^2": (1, 0),
                    "m^2^2/s": (1, 0), "m\n": (1, 0)})

    def test_empty_pieces(self):
        self.check({".": (1, 0), "/": (1, 0), "..": (1, 0), ".m": (1, 0), "/m": (1, 0), "m.": (1, 2), "m..s": (1, 2), "m./s": (1, 2),
                    "km//s": (1, 3), "km/s.": (1, 5), "km/s/": (1, 5), "m..": (1, 2), "1/": (1, 2), "/1": (1, 0)})

    def test_places_behind_a_blank(self):
        self.check({"3 M": (1, 2), "10 .m": (1, 3), "1/2 m.M": (1, 6), "0.25 m/": (1, 7), "-12 km/s.": (1, 9), "1000 m^": (1, 5),
                    "3 ": (1, 2), "007 m.s.x^": (1, 8)})

    def test_twenty_first_piece(self):
        twenty = ".".join(["m"] * 20)
        ones = "/".join(["1"] * 20)
        self.check({twenty: (0, 0), twenty + ".m": (1, 40), twenty + "/1": (1, 40), twenty + ".": (1, 40), twenty + ".M": (1, 40),
                    ones: (0, 0), ones + "/1": (1, 40), "3 " + twenty + ".m.m": (1, 42), "10 " + ones + "/1": (1, 43),
                    twenty + ".m.M": (1, 40), ".".join(["km^2"] * 21): (1, 100)})

    def test_wrong_piece_before_the_twenty_first(self):
        many = ["m"] * 30
        for place in range(30):
            pieces = list(many)
            pieces[place] = "M"
            self.check({".".join(pieces): (1, 2 * min(place, 20)), "5 " + "/".join(pieces): (1, 2 + 2 * min(place, 20))})

    def test_number_not_above_0(self):
        self.check({"0 m": (2, 0), "-1 m": (2, 0), "-0 m": (2, 0), "0/5 1": (2, 0), "0.00 s": (2, 0), "-1/2 km": (2, 0)})

    def test_unknown_names(self):
        self.check({"x": (3, 0), "m.x": (3, 2), "3 x": (3, 2), "1/2 km/x^2.y": (3, 7), "km/s.x": (3, 5), "x^0": (3, 0), "m/x^0": (3, 2),
                    "1/x": (3, 2), "x.y": (3, 0), "5 1/1/x^-0": (3, 6), "k": (3, 0), "kmm": (3, 0), "m." * 19 + "x": (3, 38)})
        self.assertEqual(one([], "fault", "m"), [3, 0])

    def test_too_far(self):
        self.check({"m^99.m": (4, 0), "m^-99/m": (4, 0), "3 s.m^99.m": (4, 0), "km^14": (4, 0), "1/km^14": (4, 0), f"{FAR - 1} km": (4, 0),
                    f"1/{FAR - 1} 1/km": (4, 0), "km^13": (0, 0), "m^99.m/m": (0, 0)})
        nines = ".".join(["a^99", "b^-99"] * 10)
        self.assertEqual(after(GREAT, ("fault", nines), ("fault", "a/b"), ("fault", "a^99/a^98")), [[4, 0], [4, 0], [0, 0]])

    def test_order_of_the_kinds(self):
        self.check({"0 x.m^99.m.": (1, 11), "0 x.m^99.m": (2, 0), "x.m^99.m": (3, 0), "m^99.m.x": (3, 7), "m^99.m": (4, 0), "0 m^99.m": (2, 0),
                    "-1 x": (2, 0), "x.M": (1, 2), "0 M": (1, 2), "x M": (1, 0), "0 km^14": (2, 0), "-1 m//s": (1, 5), "x.y.": (1, 4),
                    "0 " + ".".join(["x"] * 21): (1, 42), "km^99.x": (3, 6)})

    def test_as_reading_does(self):
        kinds = {-4: 1, -6: 2, -5: 3, -7: 4}
        texts = ("", "3", "m/", " m", "0 m", "-1 x", "x", "x^0", "m^99.m", "m" * 501, "m", "5 km/s^2", "1/1", "1 1", "km^14", "0 m.")
        for text in texts:
            read, fault = after(BOOK, ("read", text), ("fault", text))
            self.assertEqual(fault[0], kinds.get(read[0], 0), text)
            self.assertEqual(len(fault), 2)

    def test_after_forget(self):
        self.assertEqual(after(BOOK, ("fault", "m.km"), ("forget", "km"), ("fault", "m.km"), ("base", "km"), ("fault", "m.km")),
                         [[0, 0], [0], [3, 2], [0], [0, 0]])

    def test_every_single_byte(self):
        for byte in range(256):
            kind = 0 if byte in (49, 109, 115) else 3 if 97 <= byte <= 122 else 1
            self.assertEqual(one(BOOK, "fault", [byte]), [kind, 0], byte)


if __name__ == "__main__":
    unittest.main()
