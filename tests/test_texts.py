"""Names, number texts, factors, measure texts and quantity texts, as the calls take them."""

import unittest

from tests.helper import after, one, run, told

FAR = 10 ** 40
BOOK = [("base", "m"), ("base", "s"), ("unit", "km", "1000 m")]
ABC = [("base", "a"), ("base", "b"), ("base", "c")]


def number(text):
    return one([], "read", text + " 1")


def signed(text, places=0):
    """A number that may be 0 or below 0, by way of convert."""
    return one([], "convert", places, text + " 1", "1")


class Names(unittest.TestCase):
    def test_good_names(self):
        for name in ("a", "z", "m", "a_", "a0", "z9", "a_b_c", "a" * 12, "a1234567890_"):
            self.assertEqual(run(("base", name), ("read", name)), [[0], [1, 1, 1]], name)

    def test_bad_names(self):
        bad = ("", "A", "aB", "_a", "0a", "1", "a-b", "a.b", "a b", " a", "a ", "a^2", "a" * 13, "`", "{", "a`", "a{",
               "a/", "a:", "a\x00", "\xe4", "a\xff", "a" * 10000)
        for name in bad:
            self.assertEqual(run(("base", name), ("unit", name, "1")), [[-1], [-1]], name[:20])

    def test_names_in_factors(self):
        for name in ("A", "_a", "0a", "a" * 13, "a b", "", "a-b", "2"):
            self.assertEqual(run(("read", name), ("read", name + "^2")), [[-4], [-4]], name)
        self.assertEqual(run(("read", "a" * 12), ("read", "a" * 12 + "^2")), [[-5], [-5]])


class NumberTexts(unittest.TestCase):
    def test_examples_of_the_document(self):
        self.assertEqual(signed("-12"), told("-12"))
        self.assertEqual(number("6/4"), [3, 2])
        self.assertEqual(number("0.25"), [1, 4])
        self.assertEqual(number("007"), [7, 1])
        self.assertEqual(signed("-0"), told("0"))
        self.assertEqual(number("-0"), [-6])

    def test_other_good_ones(self):
        self.assertEqual(number("1"), [1, 1])
        self.assertEqual(number("10/5"), [2, 1])
        self.assertEqual(number("12.50"), [25, 2])
        self.assertEqual(number("3.0"), [3, 1])
        self.assertEqual(number("0012/0008"), [3, 2])
        self.assertEqual(number("1/01"), [1, 1])
        self.assertEqual(number("0.0001"), [1, 10000])
        self.assertEqual(signed("-3/4", 2), told("-0.75"))
        self.assertEqual(signed("-1.5", 1), told("-1.5"))
        self.assertEqual(signed("0/7"), told("0"))
        self.assertEqual(signed("-0.0"), told("0"))

    def test_bad_ones(self):
        bad = ("", "-", "--1", "+1", "1-", "1/", "/2", "1/-2", "-/2", ".5", "5.", "1.-5", "-.5", "1.2.3", "1/2/3", "1.5/2",
               "1/2.5", "1e5", "a", "0x1", "1,5", "1_0", "1:", "1;", "\xb2")
        for text in bad:
            self.assertEqual(number(text), [-4], text)
            self.assertEqual(signed(text), [-4], text)

    def test_only_zeros_behind_the_slash(self):
        for text in ("1/0", "0/0", "1/000", "-1/0", "0/" + "0" * 88):
            self.assertEqual(number(text), [-4], text)
            self.assertEqual(signed(text), [-4], text)
        self.assertEqual(number("1/0001"), [1, 1])

    def test_length(self):
        self.assertEqual(number("0" * 89 + "7"), [7, 1])
        self.assertEqual(number("0" * 90 + "7"), [-4])
        self.assertEqual(number("0" * 43 + "3/" + "0" * 44 + "4"), [3, 4])
        self.assertEqual(number("0" * 44 + "3/" + "0" * 44 + "4"), [-4])
        self.assertEqual(number("1." + "0" * 88), [1, 1])
        self.assertEqual(number("1." + "0" * 89), [-4])
        self.assertEqual(signed("-" + "0" * 88 + "7"), told("-7"))
        self.assertEqual(signed("-" + "0" * 89 + "7"), [-4])

    def test_numerator_at_the_bound(self):
        self.assertEqual(number(str(FAR - 1)), [FAR - 1, 1])
        self.assertEqual(number(str(FAR)), [-4])
        self.assertEqual(number(str(FAR + 1)), [-4])
        self.assertEqual(number(f"{2 * FAR - 2}/2"), [FAR - 1, 1])
        self.assertEqual(number(f"{2 * FAR}/2"), [-4])
        self.assertEqual(number(f"{FAR}/3"), [-4])
        self.assertEqual(number(f"{FAR}/2"), [FAR // 2, 1])
        self.assertEqual(signed(str(1 - FAR)), told(str(1 - FAR)))
        self.assertEqual(signed(str(-FAR)), [-4])
        self.assertEqual(number(str(FAR - 1) + ".0"), [FAR - 1, 1])
        self.assertEqual(number(str(FAR - 1) + ".5"), [-4])

    def test_denominator_at_the_bound(self):
        self.assertEqual(number(f"1/{FAR - 1}"), [1, FAR - 1])
        self.assertEqual(number(f"1/{FAR}"), [-4])
        self.assertEqual(number(f"2/{2 * FAR - 2}"), [1, FAR - 1])
        self.assertEqual(number(f"2/{2 * FAR}"), [-4])
        self.assertEqual(number(f"2/{FAR}"), [1, FAR // 2])
        self.assertEqual(number("0." + "0" * 38 + "1"), [1, FAR // 10])
        self.assertEqual(number("0." + "0" * 39 + "1"), [-4])
        self.assertEqual(number("0." + "0" * 39 + "5"), [1, FAR // 5])
        self.assertEqual(signed("0." + "0" * 88), told("0"))
        self.assertEqual(signed(f"0/{FAR}"), told("0"))

    def test_both_at_the_bound(self):
        self.assertEqual(number(f"{FAR - 1}/{FAR - 2}"), [FAR - 1, FAR - 2])
        self.assertEqual(number(f"{FAR - 2}/{FAR - 1}"), [FAR - 2, FAR - 1])
        self.assertEqual(number(f"{FAR + 1}/{FAR}"), [-4])
        self.assertEqual(number(f"{FAR * 99}/{FAR * 66}"), [3, 2])

    def test_the_fraction_that_takes_most_steps(self):
        a, b = 1, 2
        while a + b < FAR:
            a, b = b, a + b
        self.assertEqual(number(f"{a}/{b}"), [a, b])
        self.assertEqual(number(f"{b}/{a}"), [b, a])
        self.assertEqual(number(f"{9 * a}/{9 * b}"), [a, b])
        self.assertEqual(number(f"{b}/{a + b}"), [-4])
        self.assertEqual(number(f"{a + b}/{b}"), [-4])


class Factors(unittest.TestCase):
    def test_powers(self):
        good = {"2": 2, "-1": -1, "07": 7, "0": 0, "-0": 0, "00": 0, "-07": -7, "99": 99, "-99": -99, "1": 1, "-00": 0}
        for text, power in good.items():
            self.assertEqual(one(BOOK, "read", "s^" + text), [1, 1, 0, power], text)

    def test_bad_powers(self):
        for text in ("", "-", "--1", "+1", "100", "007", "-100", "1-", "a", "1^2", "^2", "1_", ":", "\xb2"):
            self.assertEqual(one(BOOK, "read", "s^" + text), [-4], text)

    def test_power_of_a_missing_name(self):
        for text in ("x", "x^0", "x^-0", "m.x^0", "1/x", "m/x^99"):
            self.assertEqual(one(BOOK, "read", text), [-5], text)

    def test_one_is_a_factor_by_itself_alone(self):
        self.assertEqual(one(BOOK, "read", "1"), [1, 1, 0, 0])
        self.assertEqual(one(BOOK, "read", "1.1/1"), [1, 1, 0, 0])
        for text in ("1^2", "11", "01", "-1", "2", "0", "1m", "m1.2"):
            self.assertEqual(one(BOOK, "read", text), [-4], text)


class MeasureTexts(unittest.TestCase):
    def test_slash_turns_the_next_factor_alone(self):
        calls = [("read", text) for text in ("a/b.c", "1/a", "1/a/b.c", "a.b/c", "1/1.a", "a/1.b", "a/b^-2", "1/a^0/b^3")]
        self.assertEqual(after(ABC, *calls), [
            [1, 1, 1, -1, 1], [1, 1, -1, 0, 0], [1, 1, -1, -1, 1], [1, 1, 1, 1, -1], [1, 1, 1, 0, 0],
            [1, 1, 1, 1, 0], [1, 1, 1, 2, 0], [1, 1, 0, -3, 0]])

    def test_one_over_s(self):
        self.assertEqual(one(BOOK, "read", "1/s"), [1, 1, 0, -1])

    def test_same_name_more_than_once(self):
        self.assertEqual(one(BOOK, "read", "s.s.s/m/m"), [1, 1, -2, 3])

    def test_pieces_that_are_empty(self):
        for text in ("", ".", "/", "m.", "m/", ".m", "/m", "m..s", "m//s", "m./s", "m/.s"):
            self.assertEqual(run(*BOOK, ("read", text), ("read", "3 " + text))[3:], [[-4], [-4]], text)

    def test_other_signs_between(self):
        for text in ("m*s", "m,s", "m s", "m-s", "m:s", "m\ns", "m\ts"):
            self.assertEqual(one(BOOK, "read", text), [-4], text)

    def test_twenty_factors(self):
        self.assertEqual(one(BOOK, "read", ".".join(["m"] * 20)), [1, 1, 20, 0])
        self.assertEqual(one(BOOK, "read", ".".join(["m"] * 21)), [-4])
        self.assertEqual(one(BOOK, "read", "/".join(["1"] * 20)), [1, 1, 0, 0])
        self.assertEqual(one(BOOK, "read", "/".join(["1"] * 21)), [-4])
        self.assertEqual(one(BOOK, "read", "1." * 19 + "s"), [1, 1, 0, 1])
        self.assertEqual(one(BOOK, "read", "1." * 20 + "s"), [-4])


class QuantityTexts(unittest.TestCase):
    def test_blanks(self):
        self.assertEqual(one(BOOK, "read", "m"), [1, 1, 1, 0])
        self.assertEqual(one(BOOK, "read", "3 m"), [3, 1, 1, 0])
        for text in ("3  m", " m", " 3 m", "3 m ", "m ", "3 ", " ", "  ", "3 m s", "3 4 m", "m 3", "m s", "3\tm", "3m", "3"):
            self.assertEqual(one(BOOK, "read", text), [-4], text)

    def test_number_before_one(self):
        self.assertEqual(one(BOOK, "read", "5 1"), [5, 1, 0, 0])
        self.assertEqual(one(BOOK, "read", "1 1"), [1, 1, 0, 0])
        self.assertEqual(one(BOOK, "read", "1/2 1/s"), [1, 2, 0, -1])

    def test_longest_that_can_be_read(self):
        name = "abcdefghijkl"
        text = "1." + "0" * 88 + " " + "/".join([name + "^-00"] * 20)
        self.assertEqual(len(text), 430)
        self.assertEqual(one([("base", name)], "read", text), [1, 1, 0])

    def test_five_hundred_bytes_and_more(self):
        for length in (500, 501, 10000):
            self.assertEqual(one(BOOK, "read", "m" * length), [-4])
            self.assertEqual(one(BOOK, "read", "m" + ".m" * (length // 2)), [-4])
            self.assertEqual(one(BOOK, "read", "0" * length + " m"), [-4])

    def test_every_single_byte(self):
        for byte in range(256):
            answer = {49: [1, 1, 0, 0], 109: [1, 1, 1, 0], 115: [1, 1, 0, 1]}.get(byte)
            if answer is None:
                answer = [-5] if 97 <= byte <= 122 else [-4]
            self.assertEqual(one(BOOK, "read", [byte]), answer, byte)


if __name__ == "__main__":
    unittest.main()
