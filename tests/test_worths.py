"""Promises 4 to 7: read, tell, ratio and convert."""

import unittest

from tests.helper import after, one, told

FAR = 10 ** 40
BOOK = [("base", "m"), ("base", "s"), ("unit", "km", "1000 m")]
# two numbers without a common divisor, whose powers are soon far beyond the bound
GREAT = [("unit", "a", f"{FAR - 1}/{FAR - 2} 1"), ("unit", "b", f"{FAR - 3}/{FAR - 7} 1")]


class Read(unittest.TestCase):
    def test_example_of_the_document(self):
        self.assertEqual(one(BOOK, "read", "5 km/s^2"), [5000, 1, 1, -2])

    def test_plain_numbers(self):
        self.assertEqual(one([], "read", "1"), [1, 1])
        self.assertEqual(one([], "read", "6/4 1"), [3, 2])
        self.assertEqual(one(BOOK, "read", "6/4 1"), [3, 2, 0, 0])

    def test_number_is_brought_to_lowest_terms_with_the_factors(self):
        self.assertEqual(one(BOOK, "read", "1/2000 km^2"), [500, 1, 2, 0])
        self.assertEqual(one(BOOK, "read", "1/km^2"), [1, 10 ** 6, -2, 0])
        self.assertEqual(one(BOOK, "read", "km^0"), [1, 1, 0, 0])

    def test_chain_of_units(self):
        chain = [("base", "m")] + [("unit", "u0", "2 m")]
        chain += [("unit", "u" + str(i), f"u{i - 1}/1") for i in range(1, 39)]
        self.assertEqual(one(chain, "read", "u38^3"), [8, 1, 3])

    def test_order_of_refusals(self):
        calls = [("read", text) for text in ("0 x.", "0 x.m^99.m", "-1 x", "x.m^99.m", "m^99.m", "0 m^99.m")]
        self.assertEqual(after(BOOK, *calls), [[-4], [-6], [-6], [-5], [-7], [-6]])

    def test_powers_at_the_bound(self):
        calls = [("read", text) for text in ("m^99", "m^99.m", "m^-99", "m^-99/m", "m^50.m^50", "m^50.m^49", "m^99.m/m",
                                             "1/m^99/m", "1/m^99/m.m", "m^99.s^99", "m^99.s^-99/s", "m^99.m^99/m^99")]
        self.assertEqual(after(BOOK, *calls), [
            [1, 1, 99, 0], [-7], [1, 1, -99, 0], [-7], [-7], [1, 1, 99, 0], [1, 1, 99, 0],
            [-7], [1, 1, -99, 0], [1, 1, 99, 99], [-7], [1, 1, 99, 0]])

    def test_powers_by_way_of_units(self):
        setup = BOOK + [("unit", "c", "m^33"), ("unit", "d", "m^50/s^50")]
        calls = [("read", text) for text in ("c^3", "c^3.m", "1/c^3", "1/c^3/m", "d^2", "d^2.s/m", "d^99/d^98")]
        self.assertEqual(after(setup, *calls), [
            [1, 1, 99, 0], [-7], [1, 1, -99, 0], [-7], [-7], [1, 1, 99, -99], [1, 1, 50, -50]])

    def test_ratio_at_the_bound(self):
        setup = [("unit", "t", "10 1"), ("unit", "n", f"{FAR - 1} 1")]
        calls = [("read", text) for text in ("t^39", "t^40", "9 t^39", "10 t^39", "1/t^39", "1/t^40", "1/9 t^-39", "n", "1/n",
                                             "2 n", "1/2 n", f"1/{FAR - 1} n", f"{FAR - 1}/3 t", f"1/{FAR - 1} t", "t^40/t")]
        self.assertEqual(after(setup, *calls), [
            [FAR // 10, 1], [-7], [9 * FAR // 10, 1], [-7], [1, FAR // 10], [-7], [1, 9 * FAR // 10], [FAR - 1, 1], [1, FAR - 1],
            [-7], [FAR - 1, 2], [1, 1], [-7], [10, FAR - 1], [FAR // 10, 1]])

    def test_beyond_the_bound_on_the_way_alone(self):
        calls = [("read", text) for text in ("km^50/km^49", "km^99.km^99/km^99/km^98", "km^50/km^50", "km^-99.km^99.s")]
        self.assertEqual(after(BOOK, *calls), [[1000, 1, 1, 0], [1000, 1, 1, 0], [1, 1, 0, 0], [1, 1, 0, 1]])
        nines = "/".join(["a^99", "a^99"] * 10)
        self.assertEqual(one(GREAT, "read", nines), [-7])
        evened = "a^99/a^99.b^99/b^99." * 4 + "a^99/a^98.b^99/b^99"
        self.assertEqual(one(GREAT, "read", evened), [FAR - 1, FAR - 2])

    def test_ratio_far_though_near_to_one(self):
        calls = [("read", text) for text in ("a.b", "a/b", "a^99.b^-99", ".".join(["a^99"] * 20), ".".join(["b^-99"] * 20))]
        self.assertEqual(after(GREAT, *calls), [[-7]] * 5)

    def test_units_cancel_by_different_names(self):
        setup = [("unit", "x", "6/35 1"), ("unit", "y", "10/21 1"), ("unit", "z", "15/14 1")]
        self.assertEqual(one(setup, "read", "x^98.y^99/z^-97"), [-7])
        self.assertEqual(one(setup, "read", "x^40/y^40/z^-40"), [-7])
        self.assertEqual(one(setup, "read", "x.y.z"), [30, 343])

    def test_many_great_texts(self):
        text = ".".join(["a^99", "b^-99"] * 10)
        self.assertEqual(after(GREAT, *[("read", text)] * 100), [[-7]] * 100)


class Tell(unittest.TestCase):
    def check(self, setup, pairs):
        answered = after(setup, *[("tell", text) for text in pairs])
        self.assertEqual(answered, [told(text) for text in pairs.values()])

    def test_examples_of_the_document(self):
        self.check(BOOK, {"5 km/s^2": "5000 m.s^-2", "m/m": "1", "7 m/m": "7 1"})

    def test_ratios(self):
        self.check(BOOK, {"6/4 m": "3/2 m", "1/3 1": "1/3 1", "0.001 km": "m", "km/km": "1", "1/1000 1/km": "1/1000000 m^-1",
                          f"{FAR - 1}/{FAR - 2} m": f"{FAR - 1}/{FAR - 2} m", "1 1": "1"})

    def test_bases_in_the_order_of_the_book(self):
        setup = [("base", "z"), ("base", "long_name_12"), ("base", "a")]
        self.check(setup, {"a.z": "z.a", "a^2.long_name_12^-1.z": "z.long_name_12^-1.a^2", "a^-99.z^99": "z^99.a^-99",
                           "a^0.z": "z", "1/a": "a^-1", "2 a/a.long_name_12": "2 long_name_12"})

    def test_what_is_told_can_be_read(self):
        first = one(BOOK, "tell", "5/7 km/s^2")
        self.assertEqual(one(BOOK, "tell", first[1:]), first)

    def test_empty_book(self):
        self.check([], {"1": "1", "12 1": "12 1"})

    def test_refused(self):
        calls = [("tell", text) for text in ("", "5", "0 x.", "0 x", "-1 m", "x.m^99.m", "m^99.m", "km^14")]
        self.assertEqual(after(BOOK, *calls), [[-4], [-4], [-4], [-6], [-6], [-5], [-7], [-7]])


class Ratio(unittest.TestCase):
    def test_quotient_in_lowest_terms(self):
        calls = [("ratio", "km", "m"), ("ratio", "m", "km"), ("ratio", "6 km", "4 km"), ("ratio", "m/s", "3 km/s"),
                 ("ratio", "5 1", "m/m"), ("ratio", "2/3 m", "4/9 m"), ("ratio", "s", "s")]
        self.assertEqual(after(BOOK, *calls), [[1000, 1], [1, 1000], [3, 2], [1, 3000], [5, 1], [3, 2], [1, 1]])

    def test_answer_may_be_beyond_the_bound(self):
        calls = [("ratio", f"{FAR - 1} m", f"1/{FAR - 2} m"), ("ratio", f"1/{FAR - 2} m", f"{FAR - 1} m")]
        self.assertEqual(after(BOOK, *calls), [[(FAR - 1) * (FAR - 2), 1], [1, (FAR - 1) * (FAR - 2)]])

    def test_not_alike(self):
        calls = [("ratio", "m", "s"), ("ratio", "m", "1"), ("ratio", "m", "m^2"), ("ratio", "m/s", "m.s")]
        self.assertEqual(after(BOOK, *calls), [[-10]] * 4)

    def test_all_of_the_first_before_the_second(self):
        bad = {"": -4, "0 m": -6, "x": -5, "m^99.m": -7}
        for first, refusal in bad.items():
            self.assertEqual(one(BOOK, "ratio", first, "s"), [refusal])
            self.assertEqual(one(BOOK, "ratio", "s", first), [refusal])
            for second in bad:
                self.assertEqual(one(BOOK, "ratio", first, second), [refusal], (first, second))

    def test_number_of_the_first_is_asked(self):
        self.assertEqual(after(BOOK, ("ratio", "0 m", "m"), ("ratio", "-1 m", "m"), ("ratio", "m", "-1 m")),
                         [[-6], [-6], [-6]])


class Convert(unittest.TestCase):
    def check(self, rows):
        calls = [("convert", places, number + " m", "m") for places, number, shown in rows]
        self.assertEqual(after(BOOK, *calls), [told(shown) for places, number, shown in rows])

    def test_examples_of_the_document(self):
        self.check([(2, "1/8", "0.12"), (2, "3/8", "0.38"), (2, "-1/1000", "0.00"), (0, "5/2", "2"), (0, "-7/2", "-4")])

    def test_ties(self):
        self.check([(0, "1/2", "0"), (0, "3/2", "2"), (0, "7/2", "4"), (0, "9/2", "4"), (0, "-1/2", "0"), (0, "-3/2", "-2"),
                    (0, "-5/2", "-2"), (1, "0.05", "0.0"), (1, "0.15", "0.2"), (1, "0.25", "0.2"), (1, "0.35", "0.4"),
                    (1, "-0.05", "0.0"), (1, "-0.15", "-0.2"), (1, "-0.25", "-0.2"), (1, "0.95", "1.0"), (1, "9.95", "10.0"),
                    (0, "99.5", "100"), (0, "98.5", "98"), (1, "-9.95", "-10.0")])

    def test_beside_ties(self):
        self.check([(0, "0.49999", "0"), (0, "0.50001", "1"), (0, "-0.49999", "0"), (0, "-0.50001", "-1"), (0, "2.5001", "3"),
                    (0, "-2.5001", "-3"), (0, "1.4999", "1"), (2, "0.124999", "0.12"), (2, "0.125001", "0.13"),
                    (2, "1/3", "0.33"), (2, "2/3", "0.67"), (2, "-2/3", "-0.67"), (2, "0.999", "1.00"), (2, "-0.999", "-1.00")])

    def test_rounded_to_0_from_below(self):
        self.check([(0, "-0.5", "0"), (1, "-0.05", "0.0"), (20, f"-1/{FAR - 1}", "0." + "0" * 20), (3, "-0.0004", "0.000"),
                    (3, "-0.0006", "-0.001")])

    def test_number_0(self):
        self.check([(0, "0", "0"), (3, "0", "0.000"), (3, "-0", "0.000"), (1, "0/5", "0.0")])

    def test_zeros_in_front_and_behind(self):
        self.check([(3, "1/100", "0.010"), (3, "12", "12.000"), (0, "1200", "1200"), (5, "0.00001", "0.00001"),
                    (2, "100.5", "100.50"), (1, "-10", "-10.0")])

    def test_places_at_the_bounds(self):
        calls = [("convert", places, "1/3 m", "m") for places in (-1, 0, 20, 21, -10 ** 18, 10 ** 18)]
        self.assertEqual(after(BOOK, *calls), [[-13], told("0"), told("0." + "3" * 20), [-13], [-13], [-13]])

    def test_great_and_small(self):
        calls = [("convert", 20, f"{FAR - 1} m", f"1/{FAR - 1} m"), ("convert", 20, "1 m", f"{FAR - 1} m"),
                 ("convert", 20, f"-{FAR - 1} m", f"1/{FAR - 1} m")]
        square = str((FAR - 1) ** 2) + "." + "0" * 20
        self.assertEqual(after(BOOK, *calls), [told(square), told("0." + "0" * 20), told("-" + square)])

    def test_by_way_of_units(self):
        setup = BOOK + [("unit", "h", "3600 s"), ("unit", "foot", "0.3048 m")]
        calls = [("convert", 3, "10 m/s", "km/h"), ("convert", 2, "-6 foot", "m"), ("convert", 4, "m", "2 foot"),
                 ("convert", 1, "0 km/h", "m/s")]
        self.assertEqual(after(setup, *calls), [told("36.000"), told("-1.83"), told("1.6404"), told("0.0")])

    def test_places_are_asked_first(self):
        for places in (-1, 21):
            for first, second in (("", ""), ("0 x.", "0 m"), ("x", "m"), ("m", "s"), ("m^99.m", "")):
                self.assertEqual(one(BOOK, "convert", places, first, second), [-13])

    def test_all_of_the_first_before_the_second(self):
        bad = {"": -4, "x": -5, "0 x": -5, "-1 x": -5, "m^99.m": -7, "0 m^99.m": -7, "-1 m^99.m": -7}
        for first, refusal in bad.items():
            self.assertEqual(one(BOOK, "convert", 2, first, "s"), [refusal], first)
            for second in ("", "0 m", "y", "s^99.s"):
                self.assertEqual(one(BOOK, "convert", 2, first, second), [refusal], (first, second))

    def test_what_the_second_refuses(self):
        bad = {"": -4, "0 m": -6, "-1 m": -6, "0 x": -6, "x": -5, "m^99.m": -7}
        for second, refusal in bad.items():
            for first in ("m", "s", "0 m", "-1 m"):
                self.assertEqual(one(BOOK, "convert", 2, first, second), [refusal], (first, second))

    def test_not_alike(self):
        calls = [("convert", 2, first, second) for first, second in (("m", "s"), ("0 m", "s"), ("-1 m", "1"), ("0 1", "m"))]
        self.assertEqual(after(BOOK, *calls), [[-10]] * 4)

    def test_ratio_0_is_not_too_far(self):
        setup = BOOK + GREAT
        calls = [("convert", 1, "0 a^99.b^99", "1"), ("convert", 1, "1 a^99.b^99", "1"), ("convert", 1, "0 km^50", "m^50"),
                 ("convert", 1, "-1 km^50", "m^50")]
        self.assertEqual(after(setup, *calls), [told("0.0"), [-7], told("0.0"), [-7]])

    def test_ratio_below_0_at_the_bound(self):
        calls = [("convert", 0, f"-{FAR - 1} m", "m"), ("convert", 0, f"-{FAR - 1} km", "km"), ("convert", 0, f"-{FAR // 1000} km", "m"),
                 ("convert", 0, f"-{FAR // 1000 - 1} km", "km"), ("convert", 0, f"-1/{FAR // 1000} 1/km", "1/m")]
        self.assertEqual(after(BOOK, *calls), [
            told(str(1 - FAR)), [-7], [-7], told(str(1 - FAR // 1000)), [-7]])


if __name__ == "__main__":
    unittest.main()
