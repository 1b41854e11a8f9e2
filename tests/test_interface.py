"""The interface: how calls stand in one list, and what is given back."""

import unittest

from measurebook.measures import answers
from tests.helper import encoded, run, told, told_names, told_unit

CALLS = [("base", "m"), ("base", "s"), ("unit", "km", "1000 m"), ("read", "5 km/s^2"), ("tell", "5 km/s^2"),
         ("ratio", "km", "m"), ("convert", 2, "-1/8 km", "m"), ("forget", "km"), ("forget", "km"), ("read", "km"),
         ("convert", -5, "m", "m"), ("tell", ""), ("unit", "", ""), ("unit", "km", "1000 m"), ("root", 3, "8 m^3"),
         ("root", 0, ""), ("named", "1000 m"), ("named", "2 m"), ("kin", "m"), ("kin", "1"), ("short", "m/s"), ("short", "7 m"),
         ("split", "2500 m", ("km", "3 m")), ("split", "m", ()), ("fault", "3 m//s"), ("fault", "m"), ("entry", 0), ("entry", 2),
         ("entry", 3)]


class Interface(unittest.TestCase):
    def test_one_list_written_out(self):
        calls = [0, 1, 109, 0, 1, 115, 1, 2, 107, 109, 6, 49, 48, 48, 48, 32, 109, 3, 8, 53, 32, 107, 109, 47, 115, 94, 50,
                 4, 3, 109, 47, 109, 5, 2, 107, 109, 1, 109, 6, 1, 1, 109, 2, 107, 109, 6, -1, 0, 0, 2, 1, 109, 2, 2, 107, 109,
                 2, 1, 109]
        self.assertEqual(answers(calls), [1, 0, 1, 0, 1, 0, 4, 5000, 1, 1, -2, 2, 0, 49, 2, 1000, 1, 4, 0, 48, 46, 48, 1, -13,
                                          1, -9, 1, 0, 1, 0])

    def test_later_calls_written_out(self):
        calls = [0, 1, 109, 1, 1, 107, 4, 57, 32, 109, 49, 1, 1, 107, 3, 57, 32, 109, 7, 2, 5, 52, 32, 109, 94, 50, 8, 3, 57, 32, 109,
                 9, 1, 107, 10, 3, 109, 46, 107, 11, 4, 50, 48, 32, 109, 4, 1, 107, 1, 109, 11, 1, 109, 0, 12, 2, 109, 47,
                 13, 1, 13, -1, 13, 0]
        self.assertEqual(answers(calls), [1, 0, 1, -5, 1, 0, 3, 2, 1, 1, 2, 0, 107, 5, 2, 1, 109, 1, 107, 4, 0, 109, 46, 107,
                                          4, 2, 2, 2, 1, 1, -13, 2, 1, 2, 6, 1, 107, 61, 57, 32, 109, 1, -8, 2, 0, 109])

    def test_every_call_in_one_book(self):
        self.assertEqual(run(*CALLS), [
            [0], [0], [0], [5000, 1, 1, -2], told("5000 m.s^-2"), [1000, 1], told("-125.00"), [0], [-8], [-5],
            [-13], [-4], [-1], [0], [2, 1, 1, 0], [-13], told("km"), [-12], told_names("m", "km"), [0], told("m.s^-1"), [-12],
            [2, 2, 500, 3], [-13], [1, 4], [0, 0], told("m"), told_unit("km=1000 m"), [-8]])

    def test_each_call_alone(self):
        self.assertEqual([answers(encoded([call])) for call in CALLS], [
            [1, 0], [1, 0], [1, -5], [1, -5], [1, -5], [1, -5], [1, -5], [1, -8], [1, -8], [1, -5], [1, -13], [1, -4], [1, -1],
            [1, -5], [1, -5], [1, -13], [1, -5], [1, -5], [1, -5], [1, 0], [1, -5], [1, -5], [1, -5], [1, -13], [2, 1, 4], [2, 3, 0],
            [1, -8], [1, -8], [1, -8]])

    def test_list_handed_in_stays_as_it_was(self):
        calls = encoded(CALLS)
        kept = list(calls)
        answers(calls)
        self.assertEqual(calls, kept)

    def test_what_is_given_back_is_new_each_time(self):
        calls = encoded(CALLS)
        first = answers(calls)
        kept = list(first)
        second = answers(calls)
        self.assertEqual(second, kept)
        second.clear()
        self.assertEqual(first, kept)
        self.assertEqual(answers(calls), kept)

    def test_nothing_is_kept_between_two_lists(self):
        self.assertEqual(run(("base", "m")), [[0]])
        self.assertEqual(run(("read", "m"), ("base", "m")), [[-5], [0]])

    def test_whole_numbers_and_lists_alone(self):
        given = answers(encoded(CALLS))
        self.assertIs(type(given), list)
        self.assertEqual({type(number) for number in given}, {int})

    def test_four_hundred_calls(self):
        calls = [("base", "m"), ("unit", "a", "2 m")]
        expected = [[0], [0]]
        for i in range(132):
            calls += [("unit", "b", f"{i + 1} a"), ("read", "b"), ("forget", "b")]
            expected += [[0], [2 * i + 2, 1, 1], [0]]
        calls += [("forget", "a"), ("tell", "3 m")]
        expected += [[0], told("3 m")]
        self.assertEqual(len(calls), 400)
        self.assertEqual(run(*calls), expected)

    def test_longest_texts(self):
        self.assertEqual(run(("base", "m" * 10000), ("read", [0] * 6900)), [[-1], [-4]])
        self.assertEqual(run(("convert", 10 ** 18, [255] * 6000, [32] * 6000), ("forget", [255] * 4900)), [[-13], [-8]])

    def test_longest_texts_of_the_later_calls(self):
        self.assertEqual(run(("root", 2, [109] * 10000), ("entry", -10 ** 18), ("root", 10 ** 18, [0] * 6900)), [[-4], [-8], [-13]])
        self.assertEqual(run(("named", [109] * 10000), ("kin", [32] * 6900)), [[-4], [-4]])
        self.assertEqual(run(("short", [49] * 10000), ("fault", [46] * 6900)), [[-4], [1, 500]])
        self.assertEqual(run(("split", "1", ("",) * 16900)), [[-13]])
        self.assertEqual(run(("split", "1", ([49] * 10000, [49] * 6898))), [[-4]])

    def test_bytes_that_look_like_calls_or_counts(self):
        self.assertEqual(run(("read", [3, 1, 109]), ("tell", [0, 0, 0]), ("base", [0]), ("ratio", [], [5]), ("base", "m")),
                         [[-4], [-4], [-1], [-4], [0]])


if __name__ == "__main__":
    unittest.main()
