"""Promise 8: root."""

import unittest

from tests.helper import after, one

FAR = 10 ** 40
BOOK = [("base", "m"), ("base", "s"), ("unit", "km", "1000 m")]
ALL_K = range(2, 10)


def greatest_root(bound, k):
    """The greatest whole number whose k-th power is below the bound."""
    root = 0
    for bit in reversed(range(70)):
        if (root + 2 ** bit) ** k < bound:
            root += 2 ** bit
    return root


class Root(unittest.TestCase):
    def check(self, k, answers_by_text):
        answered = after(BOOK, *[("root", k, text) for text in answers_by_text])
        for text, answer in zip(answers_by_text, answered):
            self.assertEqual(answer, answers_by_text[text], (k, text))

    def test_roots(self):
        self.check(2, {"9 m^2": [3, 1, 1, 0], "4/9 m^2/s^4": [2, 3, 1, -2], "km^2": [1000, 1, 1, 0], "1/km^2": [1, 1000, -1, 0],
                       "10 km.m": [100, 1, 1, 0], "0.25 s^-6": [1, 2, 0, -3], "18/8 m^2": [3, 2, 1, 0]})
        self.check(3, {"8 m^3": [2, 1, 1, 0], "27/64 s^-9": [3, 4, 0, -3], "km^3": [1000, 1, 1, 0], "km/m.m^3": [10, 1, 1, 0]})
        self.check(9, {"512 m^9/s^18": [2, 1, 1, -2], "1/512 1": [1, 2, 0, 0]})

    def test_k_at_the_bounds(self):
        calls = [("root", k, "m^72") for k in (-10 ** 18, -2, -1, 0, 1, 2, 9, 10, 11, 10 ** 18)]
        self.assertEqual(after(BOOK, *calls), [[-13]] * 5 + [[1, 1, 36, 0], [1, 1, 8, 0]] + [[-13]] * 3)

    def test_k_is_asked_first(self):
        for k in (-10 ** 18, 0, 1, 10, 10 ** 18):
            self.check(k, dict.fromkeys(("", "0 x.", "0 m", "-4 m^2", "x", "m^99.m", "2 m", "m"), [-13]))

    def test_what_reading_refuses(self):
        for k in ALL_K:
            self.check(k, {"": [-4], "4": [-4], "0 x.m^99.m.": [-4], "0 x.m^99.m": [-6], "-4 m^2": [-6], "x.m^99.m": [-5],
                           "2 x^0": [-5], "m^99.m": [-7], "2 km^14": [-7]})

    def test_powers_that_are_no_multiples(self):
        self.check(2, {"m": [-11], "m^3": [-11], "m^-1": [-11], "m^-3": [-11], "m^2.s^3": [-11], "m^3.s^2": [-11], "m^2/s": [-11],
                       "4 m": [-11], "m^-4/s^2": [1, 1, -2, -1], "m^98": [1, 1, 49, 0], "m^-98": [1, 1, -49, 0], "m^99": [-11]})
        self.check(3, {"m^2": [-11], "m^-2": [-11], "m^-4": [-11], "m^-3": [1, 1, -1, 0], "m^99/s^99": [1, 1, 33, -33]})
        self.check(9, {"m^8": [-11], "m^10": [-11], "m^-8": [-11], "m^-10": [-11], "m^-9": [1, 1, -1, 0], "m^99": [1, 1, 11, 0]})

    def test_numerator_or_denominator_alone(self):
        for k in ALL_K:
            self.check(k, {f"{2 ** k}/{3 ** k} 1": [2, 3, 0, 0], f"{2 ** k}/3 1": [-11], f"3/{2 ** k} 1": [-11],
                           f"{3 ** k} 1": [3, 1, 0, 0], f"1/{3 ** k} 1": [1, 3, 0, 0], "2/3 1": [-11], "1/2 1": [-11], "2 1": [-11],
                           f"{2 ** (k + 1)}/2 1": [2, 1, 0, 0], f"2/{2 ** (k + 1)} 1": [1, 2, 0, 0]})

    def test_great_powers_and_their_neighbours(self):
        for k in ALL_K:
            for bound in (FAR, FAR // 10):
                root = greatest_root(bound, k)
                power = root ** k
                self.assertEqual(len(str(power)), len(str(bound)) - 1)
                self.check(k, {f"{power} 1": [root, 1, 0, 0], f"{power - 1} 1": [-11], f"{power + 1} 1": [-11],
                               f"1/{power} 1": [1, root, 0, 0], f"1/{power - 1} 1": [-11], f"1/{power + 1} 1": [-11],
                               f"{(root - 1) ** k} m^{k}": [root - 1, 1, 1, 0]})

    def test_great_numerator_and_denominator(self):
        for k in ALL_K:
            root = greatest_root(FAR, k)
            power = root ** k
            below = (root - 1) ** k
            self.check(k, {f"{power}/{below} 1": [root, root - 1, 0, 0], f"{below}/{power} 1": [root - 1, root, 0, 0],
                           f"{power}/{power} 1": [1, 1, 0, 0], f"{power}/{power - 1} 1": [-11], f"{power - 1}/{power} 1": [-11]})

    def test_greatest_ratios(self):
        for k in ALL_K:
            self.check(k, {f"{FAR - 1} 1": [-11], f"1/{FAR - 1} 1": [-11], f"{FAR - 1}/{FAR - 2} 1": [-11]})

    def test_small_whole_numbers(self):
        for k in ALL_K:
            powers = {base ** k: base for base in range(1, 20)}
            self.check(k, {f"{n} 1": [powers[n], 1, 0, 0] if n in powers else [-11] for n in range(1, 270)})

    def test_ratio_1_and_powers_that_are_all_0(self):
        for k in ALL_K:
            self.check(k, {"1": [1, 1, 0, 0], "m/m": [1, 1, 0, 0], f"m^{k}": [1, 1, 1, 0], f"1/s^{2 * k}": [1, 1, 0, -2],
                           f"{5 ** k} m^0": [5, 1, 0, 0]})
            self.assertEqual(one([], "root", k, "1"), [1, 1])
            self.assertEqual(one([], "root", k, f"{7 ** k} 1"), [7, 1])


if __name__ == "__main__":
    unittest.main()
