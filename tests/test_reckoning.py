"""Reckoning with the places: compare, add, sub, mul, div, power, convergents; and best, of promise 3."""

import math
import unittest
from fractions import Fraction

import helper


def keeping(*values):
    """Calls that keep fractions in the places from 0 on."""
    return [helper.read(place, 0, 10, helper.plain(value)) for place, value in enumerate(values)]


def slow_best(value, most):
    """The nearest of all fractions with at most so much below; then the least below; then the lesser."""
    found = []
    for below in range(1, most + 1):
        start = math.floor(value * below)
        found.extend(Fraction(above, below) for above in range(start - 1, start + 3))
    return min(found, key=lambda other: (abs(other - value), other.denominator, other))


def slow_convergents(value):
    terms = helper.text_of(2, 10, value).replace(";", ",").split(",")
    answer = [len(terms)]
    for many in range(1, len(terms) + 1):
        text = terms[0] + (";" + ",".join(terms[1:many]) if many > 1 else "")
        answer += helper.row(helper.plain(helper.value_of(2, 10, text)))
    return answer


class Reckoning(unittest.TestCase):
    def test_small_fractions(self):
        values = helper.small_fractions(4, 2)
        pairs = [(first, second) for first in values for second in values]
        groups = [keeping(first, second) + [
            helper.add(0, 1, 2), helper.sub(0, 1, 3), helper.mul(0, 1, 4), helper.div(0, 1, 5), helper.compare(0, 1),
            helper.write(2, 0, 10), helper.write(3, 0, 10), helper.write(4, 0, 10), helper.write(5, 0, 10),
        ] for first, second in pairs]
        for (first, second), told in zip(pairs, helper.ask_groups(groups)):
            kept = [first + second, first - second, first * second]
            expected = [helper.done(helper.plain(value)) for value in kept]
            expected.append(helper.done(helper.plain(first / second)) if second else [-5])
            less = 1 if first < second else 2 if second < first else 0
            self.assertEqual(told[2:7], expected + [[less]], (first, second))
            self.assertEqual(told[7:10], expected[:3], (first, second))
            if second:
                self.assertEqual(told[10], expected[3], (first, second))

    def test_places_may_be_the_same(self):
        told = helper.ask(
            helper.read(0, 0, 10, "3/2"), helper.add(0, 0, 0), helper.mul(0, 0, 0), helper.power(0, 2, 0),
            helper.div(0, 0, 1), helper.sub(0, 0, 0), helper.best(1, 1, 1), helper.compare(0, 0), helper.compare(0, 1),
        )
        self.assertEqual(told, [helper.done(text) for text in ("3/2", "3", "9", "81", "1", "0", "1")] + [[0], [1]])

    def test_places_hold_zero_at_first(self):
        for place in range(8):
            told = helper.ask(helper.write(place, 0, 10), helper.convergents(place), helper.compare(place, 7 - place))
            self.assertEqual(told, [helper.done("0"), [1, 1, 48], [0]])

    def test_each_place_keeps_its_own(self):
        calls = [helper.read(place, 0, 10, f"{place}/9") for place in range(8)]
        told = helper.ask(*calls, *[helper.write(place, 0, 10) for place in range(8)])
        expected = [helper.done(helper.plain(Fraction(place, 9))) for place in range(8)]
        self.assertEqual(told, expected * 2)

    def test_power(self):
        for value in (Fraction(0), Fraction(1), Fraction(-1), Fraction(2, 3), Fraction(-3, 2), Fraction(7), Fraction(-1, 5)):
            times = list(range(41))
            told = helper.ask(*keeping(value), *[helper.power(0, many, 1) for many in times])
            self.assertEqual(told[1:], [helper.done(helper.plain(value ** many)) for many in times])

    def test_power_that_is_not_small_enough(self):
        edge = 10 ** 7
        told = helper.ask(
            *keeping(edge, Fraction(1, edge), Fraction(-edge, 3), 10 ** 300 - 1, 31622776, Fraction(-1, 31622777)),
            helper.power(0, 40, 7), helper.power(1, 40, 7), helper.power(2, 40, 7), helper.power(3, 40, 7),
            helper.power(3, 1, 7), helper.power(3, 0, 7), helper.power(4, 40, 7), helper.power(5, 40, 7),
            helper.write(7, 0, 10),
        )
        self.assertEqual(told[6:9], [helper.done(helper.plain(value)) for value in (
            edge ** 40, Fraction(1, edge ** 40), Fraction(edge ** 40, 3 ** 40))])
        self.assertEqual(told[9:12], [[-8], helper.done(str(10 ** 300 - 1)), helper.done("1")])
        self.assertGreater(31622776 ** 40, 10 ** 299)
        self.assertLess(31622776 ** 40, 10 ** 300)
        self.assertGreater(31622777 ** 40, 10 ** 300)
        self.assertEqual(told[12:], [helper.done(str(31622776 ** 40)), [-8], helper.done(str(31622776 ** 40))])

    def test_edges_of_small_enough(self):
        great = 10 ** 300 - 1
        told = helper.ask(
            *keeping(great, 1, Fraction(1, great), -great, 2, Fraction(1, 2)),
            helper.add(0, 1, 7), helper.sub(3, 1, 7), helper.mul(0, 4, 7), helper.div(2, 4, 7), helper.mul(2, 5, 7),
            helper.add(0, 2, 7), helper.add(2, 5, 7), helper.sub(0, 3, 7), helper.div(1, 0, 6), helper.compare(6, 2),
            helper.sub(0, 1, 6), helper.div(6, 0, 6), helper.write(7, 0, 10), helper.div(3, 0, 6), helper.mul(0, 2, 6),
        )
        self.assertEqual(told[6:14], [[-8]] * 8)
        self.assertEqual(told[14:18], [helper.done(helper.plain(Fraction(1, great))), [0], helper.done(str(great - 1)),
                                       helper.done(helper.plain(Fraction(great - 1, great)))])
        self.assertEqual(told[18:], [helper.done("0"), helper.done("-1"), helper.done("1")])

    def test_great_numbers(self):
        chance = helper.chance(5)
        groups = []
        expected = []
        for _ in range(60):
            lengths = [chance.choice([1, 20, 140, 150, 151, 299, 300]) for _ in range(4)]
            numbers = [chance.randint(10 ** (length - 1), 10 ** length - 1) for length in lengths]
            first, second = Fraction(numbers[0], numbers[1]), Fraction(-numbers[2], numbers[3])
            groups.append(keeping(first, second) + [helper.add(0, 1, 2), helper.sub(0, 1, 3), helper.mul(0, 1, 4),
                                                    helper.div(0, 1, 5), helper.compare(1, 0)])
            results = [first + second, first - second, first * second, first / second]
            expected.append([helper.done(helper.plain(value)) if helper.is_small(value) else [-8] for value in results])
        for told, kept in zip(helper.ask_groups(groups), expected):
            self.assertEqual(told[2:], kept + [[1]])


class Convergents(unittest.TestCase):
    def test_by_hand(self):
        told = helper.ask(*keeping(Fraction(-7, 2), Fraction(415, 93)), helper.convergents(0), helper.convergents(1))
        self.assertEqual(told[2], [2] + helper.row("-4") + helper.row("-7/2"))
        self.assertEqual(told[3], [4] + helper.row("4") + helper.row("9/2") + helper.row("58/13") + helper.row("415/93"))

    def test_small_fractions(self):
        values = helper.small_fractions(12, 2)
        groups = [keeping(value) + [helper.convergents(0)] for value in values]
        asked = []
        for start in range(0, len(groups), 40):
            asked += helper.ask_groups(groups[start:start + 40])
        for value, told in zip(values, asked):
            self.assertEqual(told[1], slow_convergents(value), value)

    def test_edges_of_twenty_digits(self):
        great = 10 ** 20 - 1
        for value, fits in (
            (Fraction(great), True), (Fraction(-great), True), (Fraction(great, great - 1), True),
            (Fraction(-great + 1, great), True), (Fraction(1, great), True), (Fraction(great + 1), False),
            (Fraction(-great - 1), False), (Fraction(1, great + 1), False), (Fraction(great, great + 1), False),
            (Fraction(great + 1, 3), False), (Fraction(12345678901234567890, 98765432109876543211), True),
        ):
            told = helper.ask(*keeping(value), helper.convergents(0))[1]
            self.assertEqual(told, slow_convergents(value) if fits else [-8], value)

    def test_forty_long_ones(self):
        first, second = 1, 1
        while first + second < 10 ** 20:
            first, second = second, first + second
        value = Fraction(first, second)
        told = helper.ask(*keeping(value), *[helper.convergents(0)] * 40)
        self.assertEqual(told[1:], [slow_convergents(value)] * 40)


class Best(unittest.TestCase):
    def check(self, cases):
        groups = [keeping(value) + [helper.best(0, most, 1), helper.write(1, 0, 10)] for value, most in cases]
        for (value, most), told in zip(cases, helper.ask_groups(groups)):
            kept = helper.done(helper.plain(slow_best(value, most)))
            self.assertEqual(told[1:], [kept, kept], (value, most))

    def test_ties_by_hand(self):
        for value, most, text in (
            ("1/2", 1, "0"), ("-1/2", 1, "-1"), ("3/2", 1, "1"), ("-3/2", 1, "-2"), ("5/2", 1, "2"),
            ("1/4", 2, "0"), ("1/4", 3, "1/3"), ("3/4", 2, "1"), ("-1/4", 2, "0"), ("-3/4", 2, "-1"), ("5/12", 3, "1/2"),
            ("5/12", 2, "1/2"), ("7/12", 3, "1/2"), ("-5/12", 3, "-1/2"), ("1/6", 3, "0"), ("9/20", 4, "1/2"),
        ):
            told = helper.ask(helper.read(0, 0, 10, value), helper.best(0, most, 0))
            self.assertEqual(told[1], helper.done(text), (value, most))

    def test_all_small_fractions(self):
        self.check([(value, most) for value in helper.small_fractions(14, 1) for most in range(1, 15)])

    def test_all_midpoints(self):
        """Halfway between two neighbours of a row both are as near."""
        for most in range(1, 12):
            values = helper.small_fractions(most, 1)
            middles = [(first + second) / 2 for first, second in zip(values, values[1:])]
            self.check([(value, most) for value in middles])
            for value in middles:
                answer = slow_best(value, most)
                nearest = sorted(values, key=lambda other: abs(other - value))[:2]
                self.assertEqual(abs(nearest[0] - value), abs(nearest[1] - value))
                self.assertEqual(answer, min(nearest, key=lambda other: (other.denominator, other)))

    def test_by_chance(self):
        chance = helper.chance(6)
        cases = []
        for _ in range(60):
            value = Fraction(chance.randint(-10 ** 6, 10 ** 6), chance.randint(1, 10 ** 5))
            cases.append((value, chance.choice([1, 2, 7, 100, 499, 500])))
        self.check(cases)

    def test_great_numbers(self):
        great = 10 ** 300 - 1
        values = [Fraction(great), Fraction(-great), Fraction(1, great), Fraction(great, great - 1), Fraction(-great, 2),
                  Fraction(great - 1, 7), Fraction(10 ** 299 + 1, 500), Fraction(10 ** 299 + 1, 501), Fraction(0)]
        self.check([(value, most) for value in values for most in (1, 2, 499, 500)])


if __name__ == "__main__":
    unittest.main()
