"""Reckoning with the places: compare, add, sub, mul, div, power, mediant, floor, convergents."""

import math
import unittest
from fractions import Fraction

import helper


def slow_convergents(value):
    terms = helper.text_of(2, 10, value).replace(";", ",").split(",")
    texts = [terms[0] + (";" + ",".join(terms[1:many]) if many > 1 else "") for many in range(1, len(terms) + 1)]
    return helper.listed([helper.value_of(2, 10, text) for text in texts])


class Reckoning(unittest.TestCase):
    def test_small_fractions(self):
        values = helper.small_fractions(4, 2)
        pairs = [(first, second) for first in values for second in values]
        groups = [helper.keeping(first, second) + [
            helper.add(0, 1, 2), helper.sub(0, 1, 3), helper.mul(0, 1, 4), helper.div(0, 1, 5), helper.compare(0, 1),
            helper.write(2, 0, 10), helper.write(3, 0, 10), helper.write(4, 0, 10), helper.write(5, 0, 10),
        ] for first, second in pairs]
        for (first, second), told in zip(pairs, helper.ask_groups(groups)):
            kept = [first + second, first - second, first * second]
            expected = [helper.done(helper.plain(value)) for value in kept]
            expected.append(helper.done(helper.plain(first / second)) if second else [-5])
            less = 1 if first < second else 2 if second < first else 0
            self.assertEqual(told[2:7], expected + [[less]], (first, second))
            self.assertEqual(told[7:10], expected[:3], (first, second))
            if second:
                self.assertEqual(told[10], expected[3], (first, second))

    def test_places_may_be_the_same(self):
        told = helper.ask(
            helper.read(0, 0, 10, "3/2"), helper.add(0, 0, 0), helper.mul(0, 0, 0), helper.power(0, 2, 0),
            helper.div(0, 0, 1), helper.sub(0, 0, 0), helper.best(1, 1, 1), helper.compare(0, 0), helper.compare(0, 1),
        )
        self.assertEqual(told, [helper.done(text) for text in ("3/2", "3", "9", "81", "1", "0", "1")] + [[0], [1]])

    def test_places_hold_zero_at_first(self):
        for place in range(8):
            told = helper.ask(helper.write(place, 0, 10), helper.convergents(place), helper.compare(place, 7 - place))
            self.assertEqual(told, [helper.done("0"), [1, 1, 48], [0]])

    def test_each_place_keeps_its_own(self):
        calls = [helper.read(place, 0, 10, f"{place}/9") for place in range(8)]
        told = helper.ask(*calls, *[helper.write(place, 0, 10) for place in range(8)])
        expected = [helper.done(helper.plain(Fraction(place, 9))) for place in range(8)]
        self.assertEqual(told, expected * 2)

    def test_power(self):
        for value in (Fraction(0), Fraction(1), Fraction(-1), Fraction(2, 3), Fraction(-3, 2), Fraction(7), Fraction(-1, 5)):
            times = list(range(41))
            told = helper.ask(*helper.keeping(value), *[helper.power(0, many, 1) for many in times])
            self.assertEqual(told[1:], [helper.done(helper.plain(value ** many)) for many in times])

    def test_power_that_is_not_small_enough(self):
        edge = 10 ** 7
        told = helper.ask(
            *helper.keeping(edge, Fraction(1, edge), Fraction(-edge, 3), 10 ** 300 - 1, 31622776, Fraction(-1, 31622777)),
            helper.power(0, 40, 7), helper.power(1, 40, 7), helper.power(2, 40, 7), helper.power(3, 40, 7),
            helper.power(3, 1, 7), helper.power(3, 0, 7), helper.power(4, 40, 7), helper.power(5, 40, 7),
            helper.write(7, 0, 10),
        )
        self.assertEqual(told[6:9], [helper.done(helper.plain(value)) for value in (
            edge ** 40, Fraction(1, edge ** 40), Fraction(edge ** 40, 3 ** 40))])
        self.assertEqual(told[9:12], [[-8], helper.done(str(10 ** 300 - 1)), helper.done("1")])
        self.assertGreater(31622776 ** 40, 10 ** 299)
        self.assertLess(31622776 ** 40, 10 ** 300)
        self.assertGreater(31622777 ** 40, 10 ** 300)
        self.assertEqual(told[12:], [helper.done(str(31622776 ** 40)), [-8], helper.done(str(31622776 ** 40))])

    def test_edges_of_small_enough(self):
        great = 10 ** 300 - 1
        told = helper.ask(
            *helper.keeping(great, 1, Fraction(1, great), -great, 2, Fraction(1, 2)),
            helper.add(0, 1, 7), helper.sub(3, 1, 7), helper.mul(0, 4, 7), helper.div(2, 4, 7), helper.mul(2, 5, 7),
            helper.add(0, 2, 7), helper.add(2, 5, 7), helper.sub(0, 3, 7), helper.div(1, 0, 6), helper.compare(6, 2),
            helper.sub(0, 1, 6), helper.div(6, 0, 6), helper.write(7, 0, 10), helper.div(3, 0, 6), helper.mul(0, 2, 6),
        )
        self.assertEqual(told[6:14], [[-8]] * 8)
        self.assertEqual(told[14:18], [helper.done(helper.plain(Fraction(1, great))), [0], helper.done(str(great - 1)),
                                       helper.done(helper.plain(Fraction(great - 1, great)))])
        self.assertEqual(told[18:], [helper.done("0"), helper.done("-1"), helper.done("1")])

    def test_great_numbers(self):
        chance = helper.chance(5)
        groups = []
        expected = []
        for _ in range(60):
            lengths = [chance.choice([1, 20, 140, 150, 151, 299, 300]) for _ in range(4)]
            numbers = [chance.randint(10 ** (length - 1), 10 ** length - 1) for length in lengths]
            first, second = Fraction(numbers[0], numbers[1]), Fraction(-numbers[2], numbers[3])
            groups.append(helper.keeping(first, second) + [helper.add(0, 1, 2), helper.sub(0, 1, 3), helper.mul(0, 1, 4),
                                                    helper.div(0, 1, 5), helper.compare(1, 0)])
            results = [first + second, first - second, first * second, first / second]
            expected.append([helper.done(helper.plain(value)) if helper.is_small(value) else [-8] for value in results])
        for told, kept in zip(helper.ask_groups(groups), expected):
            self.assertEqual(told[2:], kept + [[1]])


class Mediant(unittest.TestCase):
    def test_small_fractions(self):
        values = helper.small_fractions(5, 2)
        pairs = [(first, second) for first in values for second in values]
        groups = [helper.keeping(first, second) + [helper.mediant(0, 1, 2), helper.write(2, 0, 10)] for first, second in pairs]
        for (first, second), told in zip(pairs, helper.ask_groups(groups)):
            value = Fraction(first.numerator + second.numerator, first.denominator + second.denominator)
            self.assertEqual(told[2:], [helper.done(helper.plain(value))] * 2, (first, second))

    def test_by_hand(self):
        for first, second, text in (
            ("0", "1", "1/2"), ("1/2", "1/2", "1/2"), ("1/3", "1", "1/2"), ("1", "3", "2"), ("-1/2", "1/2", "0"),
            ("-1/2", "-1/3", "-2/5"), ("-5/2", "-3", "-8/3"), ("-1/3", "-1", "-1/2"), ("1/7", "3/5", "1/3"), ("0", "0", "0"),
        ):
            told = helper.ask(helper.read(0, 0, 10, first), helper.read(1, 0, 10, second), helper.mediant(0, 1, 0),
                              helper.write(0, 0, 10))
            self.assertEqual(told[2:], [helper.done(text)] * 2, (first, second))

    def test_edges_of_small_enough(self):
        """Both sums below may have 301 digits, as long as what they come to in lowest terms has not."""
        great = 10 ** 300 - 1
        for first, second, text in (
            (great, 1, "5" + "0" * 299), (great, great, str(great)), (great, -great, "0"), (-great, -1, "-5" + "0" * 299),
            (Fraction(1, great), 1, "1/5" + "0" * 299), (Fraction(-1, great), -1, "-1/5" + "0" * 299),
            (Fraction(1, great), Fraction(1, great), f"1/{great}"), (Fraction(great - 1, great), 1, None),
        ):
            told = helper.ask(*helper.keeping(first, second), helper.mediant(0, 1, 2))
            self.assertEqual(told[2], [-8] if text is None else helper.done(text))

    def test_sums_of_301_digits(self):
        great = 10 ** 300 - 1
        told = helper.ask(
            *helper.keeping(Fraction(great, 2), 2, Fraction(-great, 2), -2, Fraction(2, great), Fraction(1, 2)),
            helper.mediant(0, 1, 0), helper.mediant(2, 3, 2), helper.mediant(4, 5, 4),
            helper.write(0, 0, 10), helper.write(2, 0, 10), helper.write(4, 0, 10),
        )
        kept = [helper.done(helper.plain(value)) for value in (Fraction(great, 2), Fraction(-great, 2), Fraction(2, great))]
        self.assertEqual(told[6:], [[-8]] * 3 + kept)


class Floor(unittest.TestCase):
    def test_small_fractions(self):
        values = helper.small_fractions(9, 3)
        groups = [helper.keeping(value) + [helper.floor(0), helper.write(0, 0, 10)] for value in values]
        for value, told in zip(values, helper.ask_groups(groups)):
            self.assertEqual(told[1:], [helper.done(str(math.floor(value))), helper.done(helper.plain(value))], value)

    def test_by_hand(self):
        for text, whole in (("-7/2", "-4"), ("-1/1000", "-1"), ("-1", "-1"), ("0", "0"), ("1/1000", "0"), ("7/2", "3"),
                            ("-4", "-4"), ("999/1000", "0"), ("-1001/1000", "-2")):
            told = helper.ask(helper.read(5, 0, 10, text), helper.floor(5))
            self.assertEqual(told[1], helper.done(whole), text)

    def test_great_numbers(self):
        great = 10 ** 300 - 1
        for value in (Fraction(great), Fraction(-great), Fraction(great, 2), Fraction(-great, 2), Fraction(1, great),
                      Fraction(-1, great), Fraction(-great, great - 1), Fraction(great, great - 1)):
            told = helper.ask(*helper.keeping(value), helper.floor(0))
            self.assertEqual(told[1], helper.done(str(math.floor(value))))


class Convergents(unittest.TestCase):
    def test_by_hand(self):
        told = helper.ask(*helper.keeping(Fraction(-7, 2), Fraction(415, 93)), helper.convergents(0), helper.convergents(1))
        self.assertEqual(told[2], [2] + helper.row("-4") + helper.row("-7/2"))
        self.assertEqual(told[3], [4] + helper.row("4") + helper.row("9/2") + helper.row("58/13") + helper.row("415/93"))

    def test_small_fractions(self):
        values = helper.small_fractions(12, 2)
        groups = [helper.keeping(value) + [helper.convergents(0)] for value in values]
        for value, told in zip(values, helper.ask_groups(groups)):
            self.assertEqual(told[1], slow_convergents(value), value)

    def test_edges_of_twenty_digits(self):
        great = 10 ** 20 - 1
        for value, fits in (
            (Fraction(great), True), (Fraction(-great), True), (Fraction(great, great - 1), True),
            (Fraction(-great + 1, great), True), (Fraction(1, great), True), (Fraction(great + 1), False),
            (Fraction(-great - 1), False), (Fraction(1, great + 1), False), (Fraction(great, great + 1), False),
            (Fraction(great + 1, 3), False), (Fraction(12345678901234567890, 98765432109876543211), True),
        ):
            told = helper.ask(*helper.keeping(value), helper.convergents(0))[1]
            self.assertEqual(told, slow_convergents(value) if fits else [-8], value)

    def test_forty_long_ones(self):
        first, second = 1, 1
        while first + second < 10 ** 20:
            first, second = second, first + second
        value = Fraction(first, second)
        told = helper.ask(*helper.keeping(value), *[helper.convergents(0)] * 40)
        self.assertEqual(told[1:], [slow_convergents(value)] * 40)


if __name__ == "__main__":
    unittest.main()
