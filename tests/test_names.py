"""Promises 9 to 11: named, kin and short."""

import unittest

from tests.helper import after, one, told, told_names

FAR = 10 ** 40
BOOK = [("base", "m"), ("base", "s"), ("unit", "km", "1000 m")]
BAD_TEXTS = {"": -4, "5": -4, "0 x.m^99.m.": -4, "0 x.m^99.m": -6, "-1 m": -6, "x.m^99.m": -5, "2 x^0": -5, "m^99.m": -7,
             "2 km^14": -7}


def first_primes(count):
    primes = []
    number = 2
    while len(primes) < count:
        if all(number % prime for prime in primes):
            primes.append(number)
        number += 1
    return primes


class Named(unittest.TestCase):
    def check(self, setup, names):
        answered = after(setup, *[("named", text) for text in names])
        for text, answer in zip(names, answered):
            expected = [-12] if names[text] is None else told(names[text])
            self.assertEqual(answer, expected, text)

    def test_names(self):
        self.check(BOOK, {"m": "m", "s": "s", "1000 m": "km", "km": "km", "1/1000 km": "m", "m.s/m": "s", "m^2/m": "m"})

    def test_none(self):
        self.check(BOOK, {"1": None, "m.s": None, "1/m": None, "999 m": None, "1/1000 m": None, "1000 s": None, "1000 1": None,
                          "km^2": None, "m/s": None})
        self.check([], {"1": None, "5 1": None})

    def test_first_of_those_that_are_equal(self):
        setup = BOOK + [("unit", "metre", "m"), ("unit", "kilo", "1000 metre"), ("unit", "k2", "km")]
        self.check(setup, {"metre": "m", "kilo": "km", "k2": "km", "1000000 m": None})
        turned = [("base", "z"), ("unit", "y", "2 z"), ("unit", "x", "2 z"), ("unit", "a", "2 z")]
        self.check(turned, {"a": "y", "2 z": "y"})

    def test_plain_numbers(self):
        setup = BOOK + [("unit", "doz", "12 1"), ("unit", "one", "m/m"), ("unit", "uno", "1")]
        self.check(setup, {"1": "one", "12 1": "doz", "uno": "one", "24 m/m": None, "m": "m"})

    def test_after_forget(self):
        setup = BOOK + [("unit", "kilo", "1000 m"), ("unit", "k2", "1000 m")]
        self.assertEqual(after(setup, ("named", "k2"), ("forget", "km"), ("named", "k2"), ("forget", "kilo"), ("named", "k2"),
                               ("forget", "k2"), ("named", "1000 m"), ("unit", "km", "1000 m"), ("named", "1000 m")),
                         [told("km"), [0], told("kilo"), [0], told("k2"), [0], [-12], [0], told("km")])

    def test_a_base_made_anew_stands_at_the_end(self):
        setup = [("base", "a"), ("base", "b"), ("unit", "u", "b")]
        self.assertEqual(after(setup, ("named", "a"), ("forget", "a"), ("base", "a"), ("named", "a"), ("named", "u"),
                               ("named", "a.u")),
                         [told("a"), [0], [0], told("a"), told("b"), [-12]])

    def test_refused(self):
        for text, refusal in BAD_TEXTS.items():
            self.assertEqual(one(BOOK, "named", text), [refusal], text)


class Kin(unittest.TestCase):
    def check(self, setup, names):
        answered = after(setup, *[("kin", text) for text in names])
        for text, answer in zip(names, answered):
            self.assertEqual(answer, told_names(*names[text]), text)

    def test_from_the_smallest_to_the_greatest(self):
        setup = BOOK + [("unit", "mm", "0.001 m"), ("unit", "foot", "0.3048 m"), ("unit", "min", "60 s"), ("unit", "mile", "1.609 km"),
                        ("unit", "cm", "10 mm"), ("unit", "v", "km/min")]
        length = ["mm", "cm", "foot", "m", "km", "mile"]
        self.check(setup, {"m": length, "7 km": length, "1/9 mm": length, "m.s/s": length, "s": ["s", "min"], "m/s": ["v"],
                           "2 v": ["v"]})

    def test_answer_number_by_number(self):
        self.assertEqual(one(BOOK, "kin", "m"), [2, 1, 109, 2, 107, 109])

    def test_none(self):
        self.check(BOOK, {"1": [], "m.s": [], "1/m": [], "m^2": [], "5 m/s": []})
        self.assertEqual(one(BOOK, "kin", "m^2"), [0])
        self.assertEqual(one([], "kin", "1"), [0])

    def test_same_ratios_in_the_order_of_the_book(self):
        setup = [("base", "z"), ("unit", "c", "2 z"), ("unit", "y", "z"), ("unit", "b", "2 z"), ("unit", "x", "z"), ("unit", "a", "2 y"),
                 ("unit", "low", "1/2 z")]
        self.check(setup, {"z": ["low", "z", "y", "x", "c", "b", "a"]})

    def test_plain_numbers(self):
        setup = BOOK + [("unit", "doz", "12 1"), ("unit", "half", "1/2 1"), ("unit", "rad", "m/m"), ("unit", "one", "1"),
                        ("unit", "cent", "0.01 s^0")]
        self.check(setup, {"1": ["cent", "half", "rad", "one", "doz"], "3 m/m": ["cent", "half", "rad", "one", "doz"],
                           "doz": ["cent", "half", "rad", "one", "doz"], "m": ["m", "km"]})

    def test_ratios_that_are_very_near(self):
        setup = [("unit", "c", f"{FAR - 3}/{FAR - 2} 1"), ("unit", "d", f"{FAR - 2}/{FAR - 1} 1"), ("unit", "e", f"{FAR - 1}/{FAR - 2} 1"),
                 ("unit", "f", f"{FAR - 2}/{FAR - 3} 1"), ("unit", "one", "1"), ("unit", "b", f"{FAR - 4}/{FAR - 3} 1"),
                 ("unit", "low", f"1/{FAR - 1} 1"), ("unit", "high", f"{FAR - 1} 1")]
        self.check(setup, {"1": ["low", "b", "c", "d", "one", "e", "f", "high"]})

    def test_by_value_not_by_numerator_or_denominator(self):
        setup = [("unit", "a", "9/10 1"), ("unit", "b", "2/3 1"), ("unit", "c", "1/2 1"), ("unit", "d", "100/3 1"), ("unit", "e", "5 1")]
        self.check(setup, {"1": ["c", "b", "a", "e", "d"]})

    def test_forty_names_of_twelve_signs(self):
        names = [f"name_of_an{i:02}" for i in range(40)]
        setup = [("base", names[0])] + [("unit", names[i], f"1/{i + 1} {names[0]}") for i in range(1, 40)]
        self.assertEqual(one(setup, "kin", names[7]), told_names(*reversed(names)))

    def test_after_forget(self):
        setup = BOOK + [("unit", "mm", "0.001 m")]
        self.assertEqual(after(setup, ("kin", "m"), ("forget", "km"), ("kin", "m"), ("unit", "km", "m"), ("kin", "m")),
                         [told_names("mm", "m", "km"), [0], told_names("mm", "m"), [0], told_names("mm", "m", "km")])

    def test_refused(self):
        for text, refusal in BAD_TEXTS.items():
            self.assertEqual(one(BOOK, "kin", text), [refusal], text)


class Short(unittest.TestCase):
    def check(self, setup, texts):
        answered = after(setup, *[("short", text) for text in texts])
        for text, answer in zip(texts, answered):
            expected = [-12] if texts[text] is None else told(texts[text])
            self.assertEqual(answer, expected, text)

    def test_one(self):
        ones = BOOK + [("unit", "one", "1"), ("unit", "rad", "m/m")]
        for setup in ([], BOOK, ones):
            self.check(setup, {"1": "1", "1/1": "1", "2/2 1": "1"})
        self.check(ones, {"m/m": "1", "one": "1", "rad": "1", "one^3.rad": "1", "0.001 km/m": "1"})

    def test_example_of_the_document(self):
        self.check(BOOK, {"m/s": "m.s^-1", "m.s^-1": "m.s^-1", "1/s.m": "m.s^-1"})

    def test_one_factor(self):
        self.check(BOOK, {"m": "m", "1/m": "m^-1", "m.m": "m^2", "1/m/m": "m^-2", "s^3": "s^3", "1/s^3": "s^-3", "1000 m": "km",
                          "1/1000 1/m": "km^-1", "1000000 m^2": "km^2", "m.s/m": "s"})

    def test_one_factor_before_two(self):
        setup = BOOK + [("unit", "v", "m/s"), ("unit", "w", "m^3.s^3")]
        self.check(setup, {"m/s": "v", "s/m": "v^-1", "m^2/s^2": "v^2", "m^3.s^3": "w", "m^3/s^3": "v^3", "m.s": "m.s",
                           "1/m^3/s^3": "w^-1"})

    def test_other_powers_are_not_tried(self):
        self.check(BOOK, {"m^3": "m^3", "m^4": None, "1/m^4": None, "m^3.s^3": "m^3.s^3", "m^4.s": None, "m/s^4": None,
                          "s^-3/m^3": "m^-3.s^-3"})

    def test_none(self):
        self.check(BOOK, {"5 m": None, "2 1": None, "1/1000 s": None, "10 m.s": None, "1/1000 m": "m^2.km^-1"})
        self.check(BOOK + [("base", "kg")], {"m.s.kg": None, "kg.m": "m.kg"})
        self.check([], {"5 1": None, "1/5 1": None})

    def test_single_names_in_the_order_of_the_book(self):
        setup = BOOK + [("unit", "metre", "m"), ("unit", "kilo", "1000 m")]
        self.check(setup, {"metre": "m", "kilo^2": "km^2", "kilo": "km"})

    def test_order_of_the_book_before_the_order_of_powers(self):
        setup = [("unit", "x", "1/2 1"), ("unit", "y", "8 1"), ("unit", "z", "2 1")]
        self.check(setup, {"8 1": "x^-3", "2 1": "x^-1", "4 1": "x^-2", "1/8 1": "x^3", "64 1": "y^2", "1/64 1": "y^-2"})

    def test_order_of_powers_of_the_first(self):
        # 2^e as x^i.y^j where y is a power of x comes up with several i
        for exponent, texts in {2: {5: "x.y^2", -5: "x.y^-3", 7: "x.y^3", -7: "x^-1.y^-3", 8: "x^2.y^3"},
                                3: {8: "x^-1.y^3", -8: "x.y^-3", 7: "x.y^2", -7: "x^-1.y^-2", 5: "x^-1.y^2"},
                                4: {6: "x^2.y", -6: "x^2.y^-2", 10: "x^2.y^2", 11: "x^-1.y^3", 9: "x.y^2"},
                                5: {8: "x^-2.y^2", 13: "x^-2.y^3", -8: "x^2.y^-2", 7: "x^2.y", 12: "x^2.y^2"},
                                6: {9: "x^3.y", -9: "x^3.y^-2", 15: "x^3.y^2", -15: "x^3.y^-3", 21: "x^3.y^3"}}.items():
            setup = [("unit", "x", "2 1"), ("unit", "y", f"{2 ** exponent} 1")]
            self.check(setup, {f"{2 ** e} 1" if e > 0 else f"1/{2 ** -e} 1": text for e, text in texts.items()})

    def test_powers_of_two_equal_names(self):
        self.check([("base", "m"), ("unit", "n", "m")], {
            "m^3": "m^3", "m^4": "m.n^3", "m^5": "m^2.n^3", "m^6": "m^3.n^3", "m^7": None, "n^-4": "m^-1.n^-3", "n^-5": "m^-2.n^-3",
            "n^-6": "m^-3.n^-3", "n^-7": None, "m^99": None})

    def test_order_of_the_second_before_the_order_of_powers(self):
        setup = [("unit", "p", "2 1"), ("unit", "q", "3 1"), ("unit", "r", "3/16 1")]
        self.check(setup, {"3/8 1": "p^-3.q"})
        turned = [("unit", "p", "2 1"), ("unit", "r", "3/16 1"), ("unit", "q", "3 1")]
        self.check(turned, {"3/8 1": "p.r"})

    def test_order_of_the_first_before_the_order_of_the_second(self):
        # 15 is p^-3.t by the first name and the last, and q.r by the names between
        setup = [("unit", "p", "2 1"), ("unit", "q", "3 1"), ("unit", "r", "5 1"), ("unit", "t", "120 1")]
        self.check(setup, {"15 1": "p^-3.t"})
        turned = [("unit", "q", "3 1"), ("unit", "p", "2 1"), ("unit", "t", "120 1"), ("unit", "r", "5 1")]
        self.check(turned, {"15 1": "q.r"})

    def test_the_first_stands_before_the_second_in_the_book(self):
        setup = [("base", "z"), ("base", "a")]
        self.check(setup, {"a.z": "z.a", "a/z": "z^-1.a", "z/a": "z.a^-1", "a^3/z^2": "z^-2.a^3"})

    def test_worths_tried_may_be_too_far(self):
        great = [("unit", "a", f"{FAR // 10} 1"), ("unit", "b", f"{FAR // 20} 1")]
        self.check(great, {"8 1": "a^3.b^-3", "1/8 1": "a^-3.b^3", "4 1": "a^2.b^-2", "2 1": "a.b^-1"})
        close = [("unit", "a", f"{FAR - 1} 1"), ("unit", "b", f"1/{(FAR - 1) // 3} 1")]
        self.check(close, {"27 1": "a^3.b^3", f"{FAR - 1} 1": "a", f"{3 * ((FAR - 1) // 3)} 1": "a"})

    def test_powers_tried_may_be_too_far(self):
        setup = [("base", "m"), ("unit", "c", "m^99"), ("unit", "d", "m^97")]
        self.check(setup, {"m^6": "c^3.d^-3", "m^-6": "c^-3.d^3", "m^4": "c^2.d^-2", "m^2": "m^2", "m^95": "m^-2.d", "m^98": "m^-1.c",
                           "m^93": "c^-2.d^3"})

    def test_great_numbers_that_come_to_no_match(self):
        setup = [("unit", "a", f"{FAR - 1}/{FAR - 2} 1"), ("unit", "b", f"{FAR - 3}/{FAR - 7} 1")]
        self.check(setup, {f"{FAR - 2}/{FAR - 1} 1": "a^-1", f"{FAR - 1}/{FAR - 7} 1": None, f"{FAR - 3} 1": None})

    def test_full_book(self):
        primes = first_primes(40)
        setup = [("unit", f"u{i}", f"{prime} 1") for i, prime in enumerate(primes)]
        self.check(setup, {
            f"1/{primes[38] ** 3 * primes[39] ** 3} 1": "u38^-3.u39^-3", f"{primes[0] * primes[39]} 1": "u0.u39",
            f"{primes[39] ** 3} 1": "u39^3", f"1/{primes[39] ** 3} 1": "u39^-3", f"{primes[20] ** 2}/{primes[10]} 1": "u10^-1.u20^2",
            "179 1": None, f"{primes[0] * primes[1] * primes[2]} 1": None, f"{primes[38]}/{primes[39] ** 4} 1": None})

    def test_full_book_of_bases_and_units(self):
        setup = [("base", f"b{i}") for i in range(8)]
        setup += [("unit", f"u{i}", f"{i + 2} b{i // 4}.b{(i + 3) % 8}^2") for i in range(32)]
        self.check(setup, {"b6.b7": "b6.b7", "u31^-3.u30^2": "u30^2.u31^-3", "u0^3.u31^-2": "u0^3.u31^-2", "b0.b1.b2": None,
                           "b7^3/u31^3": "b7^3.u31^-3"})

    def test_many_times_in_a_full_book(self):
        setup = [("unit", f"u{i}", f"{FAR - 1 - i}/{FAR - 101 - i} 1") for i in range(40)]
        self.assertEqual(after(setup, *[("short", "3 1")] * 360), [[-12]] * 360)

    def test_after_forget(self):
        setup = BOOK + [("unit", "v", "m/s")]
        self.assertEqual(after(setup, ("short", "s/m"), ("forget", "v"), ("short", "s/m"), ("forget", "s"), ("base", "s"),
                               ("short", "s/m"), ("short", "s/km")),
                         [told("v^-1"), [0], told("m^-1.s"), [0], [0], told("m^-1.s"), told("km^-1.s")])

    def test_refused(self):
        for text, refusal in BAD_TEXTS.items():
            self.assertEqual(one(BOOK, "short", text), [refusal], text)


if __name__ == "__main__":
    unittest.main()
