"""Promise 4: each fraction above 0 has one number, and each number one fraction."""

import unittest
from fractions import Fraction

import helper

NINES = "9" * 300


def slow_fractions(many):
    """Each number's fraction from 1 on, told from the one that it comes behind."""
    found = [None, (1, 1)]
    for number in range(2, many + 1):
        above, below = found[number // 2]
        found.append((above, above + below) if number % 2 == 0 else (above + below, below))
    return [Fraction(*pair) for pair in found[1:]]


def slow_fraction(number):
    """The same of one great number, from its digits to the base 2."""
    above = below = 1
    for digit in bin(number)[3:]:
        above, below = (above + below, below) if digit == "1" else (above, above + below)
    return Fraction(above, below)


class BothWays(unittest.TestCase):
    def test_by_hand(self):
        texts = ["1", "1/2", "2", "1/3", "3/2", "2/3", "3", "1/4", "4/3", "3/5", "5/2", "2/5", "5/3", "3/4", "4"]
        told = helper.ask(*[helper.numbered(3, str(place + 1)) for place in range(len(texts))])
        self.assertEqual(told, [helper.done(text) for text in texts])

    def test_every_number_to_its_fraction_and_back(self):
        many = 5000
        values = slow_fractions(many)
        self.assertEqual(len(set(values)), many)
        groups = [[helper.numbered(0, str(number)), helper.write(0, 0, 10), helper.number(0)] for number in range(1, many + 1)]
        seen = set()
        for number, told in enumerate(helper.ask_groups(groups), start=1):
            kept = helper.done(helper.plain(values[number - 1]))
            self.assertEqual(told, [kept, kept, helper.done(str(number))], number)
            seen.add(tuple(told[0]))
        self.assertEqual(len(seen), many)

    def test_small_fractions_to_their_numbers_and_back(self):
        values = [value for value in helper.small_fractions(20, 3) if value > 0]
        found = [group[1] for group in helper.ask_groups([helper.keeping(value) + [helper.number(0)] for value in values])]
        self.assertEqual(len(set(map(tuple, found))), len(values))
        numbers = [bytes(answer[1:]).decode() for answer in found]
        self.assertEqual([answer[0] for answer in found], [0] * len(values))
        self.assertEqual([slow_fraction(int(number)) for number in numbers], values)
        told = helper.ask_each([helper.numbered(5, number) for number in numbers])
        self.assertEqual(told, [helper.done(helper.plain(value)) for value in values])

    def test_numbers_of_three_hundred_digits(self):
        chance = helper.chance(31)
        numbers = [10 ** 299, 10 ** 300 - 1, 2 ** 996 - 1, 2 ** 996, 2 ** 996 + 1, 2 ** 995, int("10" * 498, 2),
                   int("01" * 498, 2)] + [chance.randint(10 ** 299, 10 ** 300 - 1) for _ in range(20)]
        told = helper.ask_each([helper.numbered(0, str(number)) for number in numbers])
        self.assertEqual(told, [helper.done(helper.plain(slow_fraction(number))) for number in numbers])
        self.assertEqual(helper.ask(helper.numbered(0, str(2 ** 996 - 1)), helper.numbered(1, str(2 ** 995)))[:2],
                         [helper.done("996"), helper.done("1/996")])

    def test_nine_hundred_digits_to_the_base_two(self):
        chance = helper.chance(32)
        for length in (899, 900, 901, 902, 903):
            numbers = [2 ** (length - 1), 2 ** length - 1, 2 ** (length - 1) + 1]
            numbers += [chance.randint(2 ** (length - 1), 2 ** length - 1) for _ in range(5)]
            groups = [[helper.numbered(0, str(number)), helper.number(0)] for number in numbers]
            for number, told in zip(numbers, helper.ask_groups(groups)):
                self.assertEqual(number.bit_length(), length)
                self.assertEqual(told[0], helper.done(helper.plain(slow_fraction(number))))
                self.assertEqual(told[1], helper.done(str(number)) if length <= 901 else [-8])

    def test_whole_numbers_and_unit_parts_at_the_edge(self):
        for value, number in ((900, 2 ** 900 - 1), (901, 2 ** 901 - 1), (902, None), (Fraction(1, 900), 2 ** 899),
                              (Fraction(1, 901), 2 ** 900), (Fraction(1, 902), None), (10 ** 300 - 1, None),
                              (Fraction(1, 10 ** 300 - 1), None), (Fraction(10 ** 300 - 1, 10 ** 300 - 2), None)):
            told = helper.ask(*helper.keeping(value), helper.number(0), helper.write(0, 0, 10))
            self.assertEqual(told[1], [-8] if number is None else helper.done(str(number)), value)
            self.assertEqual(told[2], helper.done(helper.plain(value)))


class Refused(unittest.TestCase):
    def test_texts_that_are_no_number(self):
        wrong = ["", "0", "00", "01", "0" * 300, "-1", "-0", "+1", " 1", "1 ", "1.", "1/1", "1/2", "1,", "a", "1a", "a1", "1\x00",
                 "\x00", "\xff", "1\xff", "12 3", "0" + "9" * 299, "1" + NINES, "1" * 301, "1" * 2000, "0" * 2000, NINES + "-",
                 "r1", "o", "1;2", "\n", "1\n", "/", ":", "1:"]
        for text in wrong:
            told = helper.ask(*helper.keeping(Fraction(2, 3)), helper.numbered(0, text), helper.write(0, 0, 10))
            self.assertEqual(told[1:], [[-4], helper.done("2/3")], text[:20])

    def test_every_byte_alone_and_behind_a_digit(self):
        told = helper.ask_each([helper.numbered(0, [code]) for code in range(256)])
        digits = range(ord("1"), ord("9") + 1)
        self.assertEqual([code for code in range(256) if told[code] != [-4]], list(digits))
        told = helper.ask_each([helper.numbered(0, [ord("1"), code]) for code in range(256)])
        self.assertEqual([code for code in range(256) if told[code] != [-4]], [ord("0")] + list(digits))

    def test_texts_that_are_just_numbers(self):
        told = helper.ask(helper.numbered(0, "1"), helper.numbered(0, "9"), helper.numbered(0, "10"), helper.numbered(7, NINES))
        self.assertEqual(told[:3], [helper.done(helper.plain(slow_fraction(number))) for number in (1, 9, 10)])
        self.assertEqual(told[3], helper.done(helper.plain(slow_fraction(int(NINES)))))

    def test_what_is_not_above_zero_has_no_number(self):
        for value in (0, -1, Fraction(-1, 2), -(10 ** 300 - 1), Fraction(-1, 10 ** 300 - 1)):
            self.assertEqual(helper.ask(*helper.keeping(value), helper.number(0))[1], [-6], value)

    def test_what_is_no_byte_comes_first(self):
        told = helper.ask(helper.numbered(8, [256]), helper.numbered(0, [256]), helper.numbered(0, [48, 49, -1]),
                          helper.numbered(0, [120, 300]), helper.numbered(0, [49] * 1999 + [256]), helper.numbered(-1, "0"))
        self.assertEqual(told, [[-3], [-1], [-1], [-1], [-1], [-3]])


if __name__ == "__main__":
    unittest.main()
