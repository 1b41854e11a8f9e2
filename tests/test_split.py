"""Promise 12: split."""

import unittest

from measurebook.measures import answers
from tests.helper import after, encoded, one, row, taken_apart

FAR = 10 ** 40
BOOK = [("base", "m"), ("base", "s"), ("unit", "km", "1000 m"), ("unit", "min", "60 s"), ("unit", "h", "60 min")]
CLOCK = ("h", "min", "s")


class Split(unittest.TestCase):
    def check(self, setup, rows):
        answered = after(setup, *[("split", quantity, measures) for quantity, measures, expected in rows])
        for (quantity, measures, expected), answer in zip(rows, answered):
            self.assertEqual(answer, expected, (quantity, measures))

    def refused(self, refusal, *rows):
        self.check(BOOK, [(quantity, measures, [refusal]) for quantity, measures in rows])

    def test_examples_of_the_document(self):
        self.check(BOOK, [("10000 s", CLOCK, [3, 2, 46, 40, 1]), ("10000 s", ("s",), [1, 10000, 1])])

    def test_list_written_out(self):
        calls = encoded(BOOK) + [11, 7, 49, 48, 48, 48, 48, 32, 115, 8, 1, 104, 3, 109, 105, 110, 1, 115, 13, 0]
        self.assertEqual(taken_apart(answers(calls))[5:], [[3, 2, 46, 40, 1], [0, 109]])

    def test_last_part_is_an_exact_fraction(self):
        self.check(BOOK, [("1 s", ("h",), [1, 1, 3600]), ("1/7 h", CLOCK, [3, 0, 8, 240, 7]), ("1.5 h", ("min", "7 s"), [2, 90, 0, 1]),
                          ("100 s", ("min", "3 s"), [2, 1, 40, 3]), ("2/3 s", ("s",), [1, 2, 3]), ("90 min", ("h", "min"), [2, 1, 30, 1]),
                          ("h", ("7 s",), [1, 3600, 7]), ("59/60 min", ("h", "min"), [2, 0, 59, 60])])

    def test_smaller_than_the_first_measure(self):
        self.check(BOOK, [("59 s", CLOCK, [3, 0, 0, 59, 1]), ("61 s", CLOCK, [3, 0, 1, 1, 1]), ("1/2 s", CLOCK, [3, 0, 0, 1, 2]),
                          ("3599 s", ("h", "min"), [2, 0, 3599, 60])])

    def test_nothing_left(self):
        self.check(BOOK, [("2 h", CLOCK, [3, 2, 0, 0, 1]), ("3660 s", CLOCK, [3, 1, 1, 0, 1]), ("h", ("h", "min"), [2, 1, 0, 1]),
                          ("h", ("h",), [1, 1, 1])])

    def test_just_below_and_just_at_a_whole_part(self):
        self.check(BOOK, [("7199 s", CLOCK, [3, 1, 59, 59, 1]), ("7200 s", CLOCK, [3, 2, 0, 0, 1]),
                          (f"{FAR - 2}/{FAR - 1} s", ("s", "1/2 s"), [2, 0, 2 * (FAR - 2), FAR - 1]),
                          (f"{FAR - 1}/{FAR - 2} s", ("s", "1/2 s"), [2, 1, 1, (FAR - 2) // 2])])

    def test_number_of_texts(self):
        ten = tuple(f"{10 - i} s" for i in range(10))
        eleven = tuple(f"{11 - i} s" for i in range(11))
        self.check(BOOK, [("29 s", (), [-13]), ("29 s", ten[:1], [1, 29, 10]), ("29 s", ten, [10, 2, 1, 0, 0, 0, 0, 0, 0, 0, 0, 1]),
                          ("29 s", eleven, [-13]), ("29 s", ("s",) * 11, [-13]), ("29 s", ("",) * 11, [-13]), ("29 s", ("s",) * 1000, [-13])])

    def test_number_of_texts_is_asked_first(self):
        for quantity in ("", "0 x.", "0 s", "x", "s^99.s", "m"):
            self.refused(-13, (quantity, ()), (quantity, ("s",) * 11), (quantity, ("",) * 16900 if quantity == "" else ("", "") * 6))

    def test_what_reading_the_quantity_refuses_is_next(self):
        for quantity, refusal in {"": -4, "5": -4, "0 x.s^99.s.": -4, "0 x.s^99.s": -6, "-1 s": -6, "x.s^99.s": -5, "x^0": -5,
                                  "s^99.s": -7}.items():
            self.refused(refusal, (quantity, ("s",)), (quantity, ("",)), (quantity, ("0 s",)), (quantity, ("y",)), (quantity, ("m^99.m",)),
                         (quantity, ("m",)), (quantity, ("s", "s")))

    def test_what_reading_a_measure_refuses(self):
        for bad, refusal in {"": -4, "5": -4, "0 x.s^99.s.": -4, "0 x.s^99.s": -6, "-1 s": -6, "x.s^99.s": -5, "x^0": -5,
                             "s^99.s": -7}.items():
            self.refused(refusal, ("h", (bad,)), ("h", ("min", bad)), ("h", (bad, "min")), ("h", ("h", "min", bad)), ("h", (bad, bad)))

    def test_not_alike(self):
        self.refused(-10, ("h", ("m",)), ("h", ("1",)), ("h", ("h", "m")), ("h", ("h^2",)), ("h", ("m", "h")), ("5 1", ("s",)),
                     ("h", ("h", "min", "1/s")))

    def test_not_below_the_one_before(self):
        self.refused(-14, ("h", ("h", "h")), ("h", ("s", "min")), ("h", ("h", "min", "60 s")), ("h", ("h", "min", "61 s")),
                     ("h", ("h", "s", "min")), ("h", ("60 min", "h")), ("h", ("h", "60 min")))
        # the quantity itself sets no bound to the first measure
        self.check(BOOK, [("s", ("h", "min"), [2, 0, 1, 60]), ("h", ("h", "3599.9 s"), [2, 1, 0, 1]),
                          ("h", ("s", f"{FAR - 2}/{FAR - 1} s"), [2, 3600, 0, 1]), ("h", (f"{FAR - 2}/{FAR - 1} s", "s"), [-14])])

    def test_the_first_text_that_is_refused_counts(self):
        for measures, refusal in ((("m", ""), -10), (("h", "h", ""), -14), (("h", "2 h", "m"), -14), (("h", "m", "h"), -10),
                                  (("h", "", "m"), -4), (("h", "x", "h"), -5), (("h", "0 s", "m"), -6), (("h", "s^99.s", "x"), -7),
                                  (("x", ""), -5), (("s", "min", "x"), -14), (("m", "2 m"), -10), (("h", "2 m"), -10)):
            self.refused(refusal, ("h", measures))

    def test_not_alike_before_not_below(self):
        self.refused(-10, ("h", ("s", "2000 m")), ("h", ("s", "km")))

    def test_great_numbers(self):
        self.check(BOOK, [(f"{FAR - 1} s", (f"1/{FAR - 1} s",), [1, (FAR - 1) ** 2, 1]),
                          (f"{FAR - 1} s", ("2 s", f"1/{FAR - 1} s"), [2, (FAR - 2) // 2, FAR - 1, 1]),
                          (f"1/{FAR - 1} s", (f"{FAR - 1} s", "s"), [2, 0, 1, FAR - 1])])

    def test_parts_of_uneven_measures(self):
        measures = tuple(f"1/{prime} m" for prime in (2, 3, 5, 7, 11, 13, 17, 19, 23, 29))
        answer = one(BOOK, "split", "100/31 m", measures)
        # 100/31 without 6/2 and 1/5 is 4/155
        self.assertEqual(answer, [10, 6, 0, 1, 0, 0, 0, 0, 0, 0, 29 * 4, 155])

    def test_measures_of_many_factors(self):
        self.check(BOOK, [("36 km/h", ("m/s",), [1, 10, 1]), ("100 km/h", ("7 m/s", "m/min"), [2, 3, 1220, 3])])

    def test_longest_measures(self):
        long = [97] * 10000
        self.assertEqual(after(BOOK, ("split", "h", (long, [98] * 6000))), [[-4]])
        self.assertEqual(len(row(long)), 10001)

    def test_empty_texts_among_the_measures(self):
        self.refused(-4, ("h", ("",)), ("h", ("", "h")), ("h", ("h", "")), ("h", ("",) * 10))


if __name__ == "__main__":
    unittest.main()
