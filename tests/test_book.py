"""Promises 1 to 3: base, unit and forget, and that a refusal leaves the book as it was."""

import unittest

from tests.helper import after, one, run, told

FAR = 10 ** 40
BOOK = [("base", "m"), ("base", "s"), ("unit", "km", "1000 m"), ("unit", "h", "3600 s"), ("unit", "v", "km/h")]
EIGHT = [("base", "b" + str(i)) for i in range(8)]
FORTY = EIGHT + [("unit", "u" + str(i), str(i + 1) + " b0") for i in range(32)]


class Base(unittest.TestCase):
    def test_bases_stand_in_their_order(self):
        self.assertEqual(run(("base", "s"), ("base", "m"), ("read", "m"), ("read", "s")),
                         [[0], [0], [1, 1, 0, 1], [1, 1, 1, 0]])

    def test_name_taken(self):
        self.assertEqual(after(BOOK, ("base", "m"), ("base", "km")), [[-2], [-2]])

    def test_eight_bases(self):
        self.assertEqual(after(EIGHT, ("base", "x"), ("unit", "x", "b7"), ("read", "x")),
                         [[-3], [0], [1, 1, 0, 0, 0, 0, 0, 0, 0, 1]])
        self.assertEqual(after(EIGHT[:7], ("base", "x"), ("base", "y")), [[0], [-3]])

    def test_forty_entries(self):
        few_bases = EIGHT[:2] + [("unit", "u" + str(i), "b1") for i in range(37)]
        self.assertEqual(after(few_bases, ("base", "x"), ("base", "y"), ("unit", "y", "x")), [[0], [-3], [-3]])

    def test_order_of_refusals(self):
        self.assertEqual(after(FORTY, ("base", "B"), ("base", "b0"), ("base", "u31"), ("base", "x")),
                         [[-1], [-2], [-2], [-3]])
        self.assertEqual(after(EIGHT, ("base", ""), ("base", "b7"), ("base", "x")), [[-1], [-2], [-3]])


class Unit(unittest.TestCase):
    def test_units_of_units(self):
        self.assertEqual(after(BOOK, ("read", "km"), ("read", "h"), ("read", "v"), ("read", "1/v^2")),
                         [[1000, 1, 1, 0], [3600, 1, 0, 1], [5, 18, 1, -1], [324, 25, -2, 2]])

    def test_unit_without_number_and_without_factors(self):
        self.assertEqual(after(BOOK, ("unit", "one", "1"), ("unit", "doz", "12 1/1"), ("read", "one"), ("read", "doz^2")),
                         [[0], [0], [1, 1, 0, 0], [144, 1, 0, 0]])

    def test_name_taken(self):
        self.assertEqual(after(BOOK, ("unit", "m", "2 s"), ("unit", "km", "2 s")), [[-2], [-2]])

    def test_forty_entries(self):
        self.assertEqual(after(FORTY[:39], ("unit", "x", "b0"), ("unit", "y", "b0")), [[0], [-3]])

    def test_its_own_name_is_not_yet_there(self):
        self.assertEqual(after(BOOK, ("unit", "x", "x"), ("unit", "x", "2 x^0"), ("read", "x")), [[-5], [-5], [-5]])

    def test_what_reading_refuses(self):
        self.assertEqual(after(BOOK, ("unit", "x", ""), ("unit", "x", "0 m"), ("unit", "x", "-1 m"), ("unit", "x", "y"),
                               ("unit", "x", "km^14"), ("unit", "x", "m^99.m")),
                         [[-4], [-6], [-6], [-5], [-7], [-7]])

    def test_order_of_refusals(self):
        self.assertEqual(after(FORTY, ("unit", "B", ""), ("unit", "b0", ""), ("unit", "x", ""), ("unit", "x", "b0")),
                         [[-1], [-2], [-3], [-3]])
        self.assertEqual(after(BOOK, ("unit", "M", "0 x"), ("unit", "m", "0 x"), ("unit", "x", "0 x^"), ("unit", "x", "0 y"),
                               ("unit", "x", "y.m^99.m")),
                         [[-1], [-2], [-4], [-6], [-5]])

    def test_worth_at_the_bound(self):
        setup = [("unit", "a", f"{FAR - 1} 1"), ("unit", "b", f"1/{FAR - 1} 1")]
        self.assertEqual(after(setup, ("read", "a"), ("read", "b"), ("read", "a.b"), ("unit", "c", "2 a"), ("unit", "c", "b/2 1"),
                               ("unit", "c", "1/2 b"), ("unit", "c", "a^2.b"), ("read", "c")),
                         [[FAR - 1, 1], [1, FAR - 1], [1, 1], [-7], [-4], [-7], [0], [FAR - 1, 1]])

    def test_a_base_that_comes_later_has_the_power_0(self):
        self.assertEqual(after(BOOK, ("base", "kg"), ("read", "v"), ("read", "kg.v")),
                         [[0], [5, 18, 1, -1, 0], [5, 18, 1, -1, 1]])


class Forget(unittest.TestCase):
    def test_taken_out(self):
        self.assertEqual(after(BOOK, ("forget", "v"), ("read", "v"), ("forget", "v"), ("read", "km/h")),
                         [[0], [-5], [-8], [5, 18, 1, -1]])

    def test_no_entry(self):
        for name in ("x", "", "M", "m ", "k", "kmm", "a" * 13, "\x00"):
            self.assertEqual(one(BOOK, "forget", name), [-8], name)

    def test_still_used(self):
        self.assertEqual(after(BOOK, ("forget", "m"), ("forget", "km"), ("forget", "h"), ("forget", "s")),
                         [[-9], [-9], [-9], [-9]])
        self.assertEqual(after(BOOK, ("forget", "v"), ("forget", "m"), ("forget", "km"), ("forget", "m"), ("forget", "s")),
                         [[0], [-9], [0], [0], [-9]])

    def test_factor_to_the_power_0_counts(self):
        setup = [("base", "m"), ("base", "s"), ("unit", "x", "2 m^0"), ("unit", "y", "3 s/s"), ("unit", "z", "1/x^-00")]
        self.assertEqual(after(setup, ("forget", "m"), ("forget", "s"), ("forget", "x"), ("forget", "z"), ("forget", "x"),
                               ("forget", "m"), ("forget", "y"), ("forget", "s")),
                         [[-9], [-9], [-9], [0], [0], [0], [0], [0]])

    def test_only_its_own_factors_count(self):
        # s is in the worth of v by way of h alone
        setup = BOOK + [("unit", "w", "v")]
        self.assertEqual(after(setup, ("forget", "v"), ("forget", "w"), ("forget", "v"), ("forget", "h"), ("forget", "s")),
                         [[-9], [0], [0], [0], [0]])

    def test_the_others_stay_in_their_order(self):
        setup = [("base", "a"), ("base", "b"), ("base", "c"), ("unit", "d", "5 c/a")]
        self.assertEqual(after(setup, ("read", "d"), ("forget", "b"), ("read", "d"), ("tell", "d.c^3"), ("base", "b"),
                               ("read", "d.b^7"), ("tell", "b.a^2.c")),
                         [[5, 1, -1, 0, 1], [0], [5, 1, -1, 1], told("5 a^-1.c^4"), [0], [5, 1, -1, 1, 7],
                          told("a^2.c.b")])

    def test_the_name_may_come_in_anew(self):
        self.assertEqual(after(BOOK, ("forget", "v"), ("base", "v"), ("read", "v"), ("forget", "v"), ("unit", "v", "7 m"),
                               ("read", "v"), ("unit", "v", "m")),
                         [[0], [0], [1, 1, 0, 0, 1], [0], [0], [7, 1, 1, 0], [-2]])
        self.assertEqual(after([("base", "a"), ("base", "b")], ("forget", "a"), ("unit", "a", "3 b"), ("read", "a.b")),
                         [[0], [0], [3, 1, 2]])

    def test_a_base_made_anew_is_in_no_older_worth(self):
        setup = [("base", "a"), ("base", "b"), ("unit", "u", "2 b")]
        self.assertEqual(after(setup, ("forget", "a"), ("base", "a"), ("read", "u"), ("read", "u.a^3")),
                         [[0], [0], [2, 1, 1, 0], [2, 1, 1, 3]])

    def test_there_is_room_again(self):
        self.assertEqual(after(FORTY, ("forget", "b7"), ("base", "x"), ("base", "y"), ("forget", "u0"), ("base", "y"),
                               ("unit", "y", "x"), ("unit", "z", "x")),
                         [[0], [0], [-3], [0], [-3], [0], [-3]])

    def test_all_forgotten(self):
        backwards = [("forget", call[1]) for call in reversed(FORTY)]
        answered = after(FORTY, *backwards, ("read", "5 1"))
        self.assertEqual(answered, [[0]] * 40 + [[5, 1]])


class AfterARefusal(unittest.TestCase):
    """What is asked behind a refused call is answered as if that call had never been."""

    def probes(self, setup):
        names = [call[1] for call in setup]
        told_all = [("tell", name) for name in names] + [("read", name) for name in names]
        told_all += [("entry", i) for i in range(len(names) + 1)] + [("kin", name) for name in names[:5]]
        room = [("base", "p" + str(i)) for i in range(9)] + [("unit", "q" + str(i), "2 1") for i in range(41)]
        forgotten = [("forget", name) for name in names] + [("forget", name) for name in reversed(names)]
        return told_all + forgotten + room + told_all

    def check(self, setup, refused):
        undisturbed = after(setup, *self.probes(setup))
        for call, refusal in refused:
            answered = after(setup, call, *self.probes(setup))
            self.assertEqual(answered[0], [refusal], call)
            self.assertEqual(answered[1:], undisturbed, call)

    def test_in_a_small_book(self):
        self.check(BOOK, [
            (("base", "M"), -1), (("base", "m"), -2), (("base", "v"), -2),
            (("unit", "", "m"), -1), (("unit", "km", "7 s"), -2), (("unit", "x", "m//s"), -4), (("unit", "x", "x"), -5),
            (("unit", "x", "0 m"), -6), (("unit", "x", "m^99.m"), -7),
            (("forget", "x"), -8), (("forget", "m"), -9), (("forget", "km"), -9),
            (("read", "3"), -4), (("read", "x"), -5), (("read", "-3 m"), -6), (("read", "km^99"), -7),
            (("tell", "3"), -4), (("tell", "x"), -5), (("tell", "-3 m"), -6), (("tell", "km^99"), -7),
            (("ratio", "m", "3"), -4), (("ratio", "x", "m"), -5), (("ratio", "m", "s"), -10),
            (("convert", 21, "m", "m"), -13), (("convert", 2, "m", "0 m"), -6), (("convert", 2, "m", "s"), -10),
            (("root", 1, "m"), -13), (("root", 2, "3"), -4), (("root", 2, "x"), -5), (("root", 2, "0 m"), -6),
            (("root", 2, "km^99"), -7), (("root", 2, "km"), -11),
            (("named", "3"), -4), (("named", "x"), -5), (("named", "0 m"), -6), (("named", "km^99"), -7), (("named", "2 m"), -12),
            (("kin", "3"), -4), (("kin", "x"), -5), (("kin", "0 m"), -6), (("kin", "km^99"), -7),
            (("short", "3"), -4), (("short", "x"), -5), (("short", "0 m"), -6), (("short", "km^99"), -7), (("short", "7 m"), -12),
            (("split", "m", ()), -13), (("split", "x", ("m",)), -5), (("split", "m", ("0 m",)), -6), (("split", "m", ("s",)), -10),
            (("split", "m", ("m", "km")), -14), (("entry", -1), -8), (("entry", 5), -8)])

    def test_in_a_full_book(self):
        self.check(FORTY, [(("base", "x"), -3), (("unit", "x", "b0"), -3)])
        self.check(EIGHT, [(("base", "x"), -3)])

    def test_calls_that_only_ask(self):
        undisturbed = after(BOOK, *self.probes(BOOK))
        for call in (("read", "2 v"), ("tell", "2 v.s^3"), ("ratio", "v", "2 m/s"), ("convert", 3, "-2 v", "m/s"), ("root", 2, "4 km^2"),
                     ("named", "km/h"), ("kin", "5 m"), ("kin", "m^5"), ("short", "v^2"), ("short", "m.s"), ("split", "h", ("7 s", "s")),
                     ("fault", "v"), ("fault", "v/"), ("fault", "0 v"), ("fault", "x"), ("fault", "km^99"), ("entry", 0), ("entry", 4)):
            self.assertEqual(after(BOOK, call, *self.probes(BOOK))[1:], undisturbed, call)


if __name__ == "__main__":
    unittest.main()
