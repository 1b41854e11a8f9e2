"""The interface: how calls stand in one list, and what is given back."""

import unittest

from measurebook.measures import answers
from tests.helper import encoded, run, told

CALLS = [("base", "m"), ("base", "s"), ("unit", "km", "1000 m"), ("read", "5 km/s^2"), ("tell", "5 km/s^2"),
         ("ratio", "km", "m"), ("convert", 2, "-1/8 km", "m"), ("forget", "km"), ("forget", "km"), ("read", "km"),
         ("convert", -5, "m", "m"), ("tell", ""), ("unit", "", "")]


class Interface(unittest.TestCase):
    def test_one_list_written_out(self):
        calls = [0, 1, 109, 0, 1, 115, 1, 2, 107, 109, 6, 49, 48, 48, 48, 32, 109, 3, 8, 53, 32, 107, 109, 47, 115, 94, 50,
                 4, 3, 109, 47, 109, 5, 2, 107, 109, 1, 109, 6, 1, 1, 109, 2, 107, 109, 6, -1, 0, 0, 2, 1, 109, 2, 2, 107, 109,
                 2, 1, 109]
        self.assertEqual(answers(calls), [1, 0, 1, 0, 1, 0, 4, 5000, 1, 1, -2, 2, 0, 49, 2, 1000, 1, 4, 0, 48, 46, 48, 1, -13,
                                          1, -9, 1, 0, 1, 0])

    def test_every_call_in_one_book(self):
        self.assertEqual(run(*CALLS), [
            [0], [0], [0], [5000, 1, 1, -2], told("5000 m.s^-2"), [1000, 1], told("-125.00"), [0], [-8], [-5],
            [-13], [-4], [-1]])

    def test_each_call_alone(self):
        self.assertEqual([answers(encoded([call])) for call in CALLS], [
            [1, 0], [1, 0], [1, -5], [1, -5], [1, -5], [1, -5], [1, -5], [1, -8], [1, -8], [1, -5], [1, -13], [1, -4], [1, -1]])

    def test_list_handed_in_stays_as_it_was(self):
        calls = encoded(CALLS)
        kept = list(calls)
        answers(calls)
        self.assertEqual(calls, kept)

    def test_what_is_given_back_is_new_each_time(self):
        calls = encoded(CALLS)
        first = answers(calls)
        kept = list(first)
        second = answers(calls)
        self.assertEqual(second, kept)
        second.clear()
        self.assertEqual(first, kept)
        self.assertEqual(answers(calls), kept)

    def test_nothing_is_kept_between_two_lists(self):
        self.assertEqual(run(("base", "m")), [[0]])
        self.assertEqual(run(("read", "m"), ("base", "m")), [[-5], [0]])

    def test_whole_numbers_and_lists_alone(self):
        given = answers(encoded(CALLS))
        self.assertIs(type(given), list)
        self.assertEqual({type(number) for number in given}, {int})

    def test_four_hundred_calls(self):
        calls = [("base", "m"), ("unit", "a", "2 m")]
        expected = [[0], [0]]
        for i in range(132):
            calls += [("unit", "b", f"{i + 1} a"), ("read", "b"), ("forget", "b")]
            expected += [[0], [2 * i + 2, 1, 1], [0]]
        calls += [("forget", "a"), ("tell", "3 m")]
        expected += [[0], told("3 m")]
        self.assertEqual(len(calls), 400)
        self.assertEqual(run(*calls), expected)

    def test_longest_texts(self):
        self.assertEqual(run(("base", "m" * 10000), ("read", [0] * 6900)), [[-1], [-4]])
        self.assertEqual(run(("convert", 10 ** 18, [255] * 6000, [32] * 6000), ("forget", [255] * 4900)), [[-13], [-8]])

    def test_bytes_that_look_like_calls_or_counts(self):
        self.assertEqual(run(("read", [3, 1, 109]), ("tell", [0, 0, 0]), ("base", [0]), ("ratio", [], [5]), ("base", "m")),
                         [[-4], [-4], [-1], [-4], [0]])


if __name__ == "__main__":
    unittest.main()
