"""Promise 3: no fraction is nearer, or simpler, than what best, records, beside, ranked and simplest tell; and rank."""

import math
import unittest
from fractions import Fraction

import helper

GREAT = 10 ** 300 - 1
LONG = 10 ** 20 - 1


def slow_best(value, most):
    """The nearest of all fractions with at most so much below; then the least below; then the lesser."""
    found = []
    for below in range(1, most + 1):
        start = math.floor(value * below)
        found.extend(Fraction(above, below) for above in range(start - 1, start + 3))
    return min(found, key=lambda other: (abs(other - value), other.denominator, other))


def slow_records(value, most):
    """Each fraction that is the best up to just what's below its own stroke."""
    found = [(below, slow_best(value, below)) for below in range(1, most + 1)]
    return [best for below, best in found if best.denominator == below]


def slow_beside(value, most):
    """The last below and the first above of all fractions near enough to be looked at."""
    near = {Fraction(math.floor(value * below) + step, below) for below in range(1, most + 1) for step in (-1, 0, 1, 2)}
    return [max(other for other in near if other < value), min(other for other in near if other > value)]


def slow_row(most):
    return sorted({Fraction(above, below) for below in range(1, most + 1) for above in range(below + 1)})


def slow_simplest(low, high):
    """The first below that does, and over it the least size that does."""
    below = 1
    while True:
        sizes = range(math.ceil(low * below), math.floor(high * below) + 1)
        if sizes:
            return min((Fraction(above, below) for above in sizes), key=abs)
        below += 1


class Best(unittest.TestCase):
    def check(self, cases):
        groups = [helper.keeping(value) + [helper.best(0, most, 1), helper.write(1, 0, 10)] for value, most in cases]
        for (value, most), told in zip(cases, helper.ask_groups(groups)):
            kept = helper.done(helper.plain(slow_best(value, most)))
            self.assertEqual(told[1:], [kept, kept], (value, most))

    def test_ties_by_hand(self):
        for value, most, text in (
            ("1/2", 1, "0"), ("-1/2", 1, "-1"), ("3/2", 1, "1"), ("-3/2", 1, "-2"), ("5/2", 1, "2"),
            ("1/4", 2, "0"), ("1/4", 3, "1/3"), ("3/4", 2, "1"), ("-1/4", 2, "0"), ("-3/4", 2, "-1"), ("5/12", 3, "1/2"),
            ("5/12", 2, "1/2"), ("7/12", 3, "1/2"), ("-5/12", 3, "-1/2"), ("1/6", 3, "0"), ("9/20", 4, "1/2"),
        ):
            told = helper.ask(helper.read(0, 0, 10, value), helper.best(0, most, 0))
            self.assertEqual(told[1], helper.done(text), (value, most))

    def test_all_small_fractions(self):
        self.check([(value, most) for value in helper.small_fractions(14, 1) for most in range(1, 15)])

    def test_all_midpoints(self):
        """Halfway between two neighbours of a row both are as near."""
        for most in range(1, 12):
            values = helper.small_fractions(most, 1)
            middles = [(first + second) / 2 for first, second in zip(values, values[1:])]
            self.check([(value, most) for value in middles])
            for value in middles:
                answer = slow_best(value, most)
                nearest = sorted(values, key=lambda other: abs(other - value))[:2]
                self.assertEqual(abs(nearest[0] - value), abs(nearest[1] - value))
                self.assertEqual(answer, min(nearest, key=lambda other: (other.denominator, other)))

    def test_by_chance(self):
        chance = helper.chance(6)
        cases = []
        for _ in range(60):
            value = Fraction(chance.randint(-10 ** 6, 10 ** 6), chance.randint(1, 10 ** 5))
            cases.append((value, chance.choice([1, 2, 7, 100, 499, 500])))
        self.check(cases)

    def test_great_numbers(self):
        great = 10 ** 300 - 1
        values = [Fraction(great), Fraction(-great), Fraction(1, great), Fraction(great, great - 1), Fraction(-great, 2),
                  Fraction(great - 1, 7), Fraction(10 ** 299 + 1, 500), Fraction(10 ** 299 + 1, 501), Fraction(0)]
        self.check([(value, most) for value in values for most in (1, 2, 499, 500)])


class Records(unittest.TestCase):
    def check(self, cases):
        groups = [helper.keeping(value) + [helper.records(0, most)] for value, most in cases]
        for (value, most), told in zip(cases, helper.ask_groups(groups)):
            self.assertEqual(told[1], helper.listed(slow_records(value, most)), (value, most))

    def test_by_hand(self):
        for value, most, expected in (
            ("0", 500, ["0"]), ("7", 1, ["7"]), ("-7", 500, ["-7"]), ("1/2", 1, ["0"]), ("1/2", 2, ["0", "1/2"]),
            ("1/2", 500, ["0", "1/2"]), ("-1/2", 500, ["-1", "-1/2"]), ("3/2", 1, ["1"]),
            ("22/7", 7, ["3", "13/4", "16/5", "19/6", "22/7"]),
            ("1/4", 2, ["0"]), ("1/4", 4, ["0", "1/3", "1/4"]), ("-1/4", 4, ["0", "-1/3", "-1/4"]), ("3/4", 3, ["1", "2/3"]),
            ("5/12", 12, ["0", "1/2", "2/5", "3/7", "5/12"]), ("7/12", 5, ["1", "1/2", "3/5"]),
            ("355/113", 113, ["3", "13/4", "16/5", "19/6", "22/7", "179/57", "201/64", "223/71", "245/78", "267/85", "289/92",
                              "311/99", "333/106", "355/113"]),
        ):
            told = helper.ask(helper.read(0, 0, 10, value), helper.records(0, most))[1]
            self.assertEqual(told, helper.listed([Fraction(text) for text in expected]), (value, most))

    def test_all_small_fractions(self):
        self.check([(value, most) for value in helper.small_fractions(13, 1) for most in (1, 2, 3, 6, 14)])
        self.check([(value, 9) for value in helper.small_fractions(8, 3)])

    def test_against_every_fraction(self):
        """Straight from the words, with all fractions at hand, not the near ones alone."""
        every = {most: helper.small_fractions(most, 3) for most in range(1, 9)}
        values = helper.small_fractions(20, 1)
        told = helper.ask_groups([helper.keeping(value) + [helper.records(0, 8)] for value in values])
        for value, (_, answer) in zip(values, told):
            order = {most: min(others, key=lambda other: (abs(other - value), other.denominator, other))
                     for most, others in every.items()}
            self.assertEqual(answer, helper.listed([best for most, best in order.items() if best.denominator == most]), value)

    def test_all_midpoints(self):
        for most in range(1, 9):
            values = helper.small_fractions(most, 1)
            self.check([((first + second) / 2, 2 * most) for first, second in zip(values, values[1:])])

    def test_what_is_kept_is_not_changed(self):
        told = helper.ask(*helper.keeping(Fraction(-22, 7)), helper.records(0, 5), helper.beside(0, 5), helper.write(0, 0, 10))
        self.assertEqual(told[3], helper.done("-22/7"))

    def test_by_chance(self):
        chance = helper.chance(21)
        cases = [(Fraction(chance.randint(-10 ** 6, 10 ** 6), chance.randint(1, 10 ** 5)), chance.choice([1, 7, 60, 119]))
                 for _ in range(40)]
        self.check(cases)

    def test_long_ones(self):
        values = [Fraction(LONG, LONG - 1), Fraction(-LONG, LONG - 1), Fraction(1, LONG), Fraction(-1, LONG), Fraction(LONG, 2),
                  Fraction(12345678901234567890, 98765432109876543211), Fraction(LONG), Fraction(12200160415121876738,
                                                                                                7540113804746346429)]
        self.check([(value, most) for value in values for most in (1, 2, 90)])
        told = helper.ask(*helper.keeping(values[5]), *[helper.records(0, 500)] * 40)
        self.assertEqual(told[1:], [helper.listed(slow_records_fast(values[5], 500))] * 40)


def slow_records_fast(value, most):
    """The same in one walk: a fraction that's nearer than all that came before it."""
    found = []
    for below in range(1, most + 1):
        best = slow_best_over(value, below)
        if not found or abs(best - value) < abs(found[-1] - value):
            found.append(best)
    return found


def slow_best_over(value, below):
    start = math.floor(value * below)
    return min((Fraction(above, below) for above in (start, start + 1)), key=lambda other: (abs(other - value), other))


class Beside(unittest.TestCase):
    def check(self, cases):
        groups = [helper.keeping(value) + [helper.beside(0, most)] for value, most in cases]
        for (value, most), told in zip(cases, helper.ask_groups(groups)):
            self.assertEqual(told[1], helper.listed(slow_beside(value, most)), (value, most))

    def test_by_hand(self):
        for value, most, less, more in (
            ("0", 1, "-1", "1"), ("0", 500, "-1/500", "1/500"), ("1", 1, "0", "2"), ("-3", 2, "-7/2", "-5/2"),
            ("1/2", 1, "0", "1"), ("1/2", 2, "0", "1"), ("1/2", 3, "1/3", "2/3"), ("-1/2", 5, "-3/5", "-2/5"),
            ("1/3", 4, "1/4", "1/2"), ("1/3", 5, "1/4", "2/5"), ("22/7", 6, "3", "19/6"), ("-22/7", 6, "-19/6", "-3"),
            ("22/7", 7, "3", "19/6"), ("22/7", 8, "25/8", "19/6"), ("1/7", 3, "0", "1/3"), ("999/1000", 500, "499/500", "1"),
        ):
            told = helper.ask(helper.read(0, 0, 10, value), helper.beside(0, most))[1]
            self.assertEqual(told, [2] + helper.row(less) + helper.row(more), (value, most))

    def test_against_every_fraction(self):
        every = {most: helper.small_fractions(most, 4) for most in range(1, 9)}
        values = helper.small_fractions(10, 2)
        cases = [(value, most) for value in values for most in every]
        groups = [helper.keeping(value) + [helper.beside(0, most)] for value, most in cases]
        for (value, most), told in zip(cases, helper.ask_groups(groups)):
            less = max(other for other in every[most] if other < value)
            more = min(other for other in every[most] if other > value)
            self.assertEqual(told[1], helper.listed([less, more]), (value, most))

    def test_by_chance(self):
        chance = helper.chance(22)
        self.check([(Fraction(chance.randint(-10 ** 6, 10 ** 6), chance.randint(1, 10 ** 5)),
                     chance.choice([1, 2, 7, 100, 499, 500])) for _ in range(60)])

    def test_long_ones(self):
        values = [Fraction(LONG), Fraction(-LONG), Fraction(1, LONG), Fraction(-1, LONG), Fraction(LONG, LONG - 1),
                  Fraction(LONG - 1, LONG), Fraction(-LONG, 500), Fraction(-LONG, 7)]
        self.check([(value, most) for value in values for most in (1, 2, 499, 500)])


class Rows(unittest.TestCase):
    def test_every_row_whole(self):
        for most in range(1, 41):
            row = slow_row(most)
            calls = [helper.ranked(most, place, place % 8) for place in range(len(row))]
            told = helper.ask_each(calls)
            self.assertEqual(told, [helper.done(helper.plain(value)) for value in row], most)

    def test_first_last_and_behind(self):
        for most in range(1, 41):
            size = len(slow_row(most))
            told = helper.ask(*helper.keeping(7), helper.ranked(most, 0, 0), helper.ranked(most, size - 1, 1),
                              helper.ranked(most, size, 0), helper.ranked(most, 1000, 1), helper.write(0, 0, 10),
                              helper.write(1, 0, 10))
            self.assertEqual(told[1:], [helper.done("0"), helper.done("1"), [-7], [-7], helper.done("0"), helper.done("1")])

    def test_rank_of_every_member(self):
        for most in (1, 2, 3, 7, 12, 39, 40):
            row = slow_row(most)
            told = helper.ask_groups([helper.keeping(value) + [helper.rank(0, most)] for value in row])
            self.assertEqual([answer for _, answer in told], [[place + 1] for place in range(len(row))])

    def test_rank_and_ranked_undo_one_another(self):
        for most in (1, 5, 40):
            places = range(len(slow_row(most)))
            told = helper.ask_groups([[helper.ranked(most, place, 3), helper.rank(3, most)] for place in places])
            self.assertEqual([answer for _, answer in told], [[place + 1] for place in places])

    def test_rank_anywhere(self):
        values = helper.small_fractions(9, 2) + [Fraction(1, GREAT), Fraction(-1, GREAT), Fraction(GREAT - 1, GREAT),
                                                 Fraction(GREAT, GREAT - 1), Fraction(GREAT), Fraction(-GREAT),
                                                 Fraction(GREAT // 2, GREAT), Fraction(GREAT // 2 + 1, GREAT)]
        for most in range(1, 41):
            row = slow_row(most)
            calls = [helper.keeping(value) + [helper.rank(0, most)] for value in values]
            for value, told in zip(values, helper.ask_groups(calls)):
                self.assertEqual(told[1], [sum(other <= value for other in row)], (value, most))

    def test_rank_by_hand(self):
        for value, most, answer in (("-1/1000", 40, 0), ("-5", 1, 0), ("0", 1, 1), ("0", 40, 1), ("1/2", 1, 1), ("1/2", 2, 2),
                                    ("1", 1, 2), ("1", 40, 491), ("1000", 40, 491), ("999/1000", 40, 490), ("1/41", 40, 1),
                                    ("1/40", 40, 2), ("2/5", 5, 5)):
            told = helper.ask(helper.read(0, 0, 10, value), helper.rank(0, most))
            self.assertEqual(told[1], [answer], (value, most))


class Simplest(unittest.TestCase):
    def check(self, pairs):
        groups = [helper.keeping(low, high) + [helper.simplest(0, 1, 2), helper.write(2, 0, 10)] for low, high in pairs]
        for (low, high), told in zip(pairs, helper.ask_groups(groups)):
            kept = helper.done(helper.plain(slow_simplest(low, high)))
            self.assertEqual(told[2:], [kept, kept], (low, high))

    def test_all_small_ends(self):
        values = helper.small_fractions(7, 2)
        self.check([(low, high) for place, low in enumerate(values) for high in values[place:]])

    def test_near_small_ends(self):
        values = helper.small_fractions(16, 1) + [Fraction(7, 2), Fraction(22, 7), Fraction(-22, 7), Fraction(-41, 2)]
        for gap in (Fraction(1, 40), Fraction(1, 700)):
            self.check([(value - gap, value + gap / 3) for value in values])
            self.check([(value, value + gap) for value in values])
            self.check([(value - gap, value) for value in values])
            self.check([(value + gap / 2, value + gap) for value in values])

    def test_by_hand(self):
        for low, high, text in (
            ("0", "0", "0"), ("-1/2", "1/2", "0"), ("0", "1/1000", "0"), ("-1/1000", "0", "0"), ("1/1000", "1/1000", "1/1000"),
            ("5/2", "9/2", "3"), ("-9/2", "-5/2", "-3"), ("2", "9", "2"), ("-9", "-2", "-2"), ("1/3", "1/2", "1/2"),
            ("-1/2", "-1/3", "-1/2"), ("2/7", "3/7", "1/3"), ("314/100", "315/100", "22/7"), ("-315/100", "-314/100", "-22/7"),
            ("3", "3", "3"), ("-3", "-3", "-3"), ("-7/3", "-7/3", "-7/3"), ("1", "3/2", "1"), ("1/2", "1", "1"),
            ("-1", "-1/2", "-1"),
        ):
            told = helper.ask(helper.read(0, 0, 10, low), helper.read(1, 0, 10, high), helper.simplest(0, 1, 1))
            self.assertEqual(told[2], helper.done(text), (low, high))

    def test_ends_the_wrong_way_round(self):
        values = helper.small_fractions(4, 2)
        pairs = [(low, high) for place, low in enumerate(values) for high in values[:place]]
        groups = [helper.keeping(low, high) + [helper.simplest(0, 1, 0), helper.write(0, 0, 10)] for low, high in pairs]
        for (low, _), told in zip(pairs, helper.ask_groups(groups)):
            self.assertEqual(told[2:], [[-7], helper.done(helper.plain(low))])
        close = Fraction(GREAT - 1, GREAT), Fraction(GREAT - 2, GREAT - 1)
        self.assertEqual(helper.ask(*helper.keeping(*close), helper.simplest(0, 1, 2), helper.simplest(1, 0, 2))[2], [-7])

    def test_both_ends_the_same(self):
        values = [Fraction(GREAT, GREAT - 1), Fraction(-GREAT, GREAT - 1), Fraction(GREAT), Fraction(-GREAT), Fraction(1, GREAT),
                  Fraction(-1, GREAT), Fraction(GREAT // 7, 10 ** 299 + 3), Fraction(0)]
        for value in values:
            told = helper.ask(*helper.keeping(value), helper.simplest(0, 0, 1))
            self.assertEqual(told[1], helper.done(helper.plain(value)))

    def test_great_ends_very_near(self):
        """The nearest ends of all: neighbours, so nothing between them has less below than both."""
        first, second = (0, 1), (1, 1)
        chance = helper.chance(23)
        while max(first[1], second[1]) < 10 ** 149:
            middle = (first[0] + second[0], first[1] + second[1])
            first, second = (middle, second) if chance.random() < 0.5 else (first, middle)
        low, high = Fraction(*first), Fraction(*second)
        simpler = min(low, high, key=lambda value: value.denominator)
        inner = Fraction(first[0] + second[0], first[1] + second[1])
        nudge = Fraction(1, inner.denominator * 10 ** 150)
        cases = [(low, high, simpler), (-high, -low, -simpler), (inner - nudge, inner + nudge, inner),
                 (-inner - nudge, -inner + nudge, -inner)]
        for start, end, expected in cases:
            told = helper.ask(*helper.keeping(start, end), helper.simplest(0, 1, 2))
            self.assertEqual(told[2], helper.done(helper.plain(expected)))

    def test_great_ends(self):
        for low, high, expected in (
            (Fraction(1, GREAT), Fraction(2, GREAT), Fraction(1, (GREAT + 1) // 2)), (Fraction(-GREAT), Fraction(GREAT), 0),
            (Fraction(1, GREAT), Fraction(GREAT), 1), (Fraction(-GREAT), Fraction(-1, GREAT), -1),
            (Fraction(GREAT - 1, GREAT), Fraction(1), 1), (Fraction(GREAT - 2, 2), Fraction(GREAT, 2), (GREAT - 1) // 2),
            (Fraction(GREAT - 2, GREAT - 1), Fraction(GREAT - 1, GREAT), Fraction(GREAT - 2, GREAT - 1)),
        ):
            told = helper.ask(*helper.keeping(low, high), helper.simplest(0, 1, 2))
            self.assertEqual(told[2], helper.done(helper.plain(expected)))

    def test_places_may_be_the_same(self):
        told = helper.ask(*helper.keeping(Fraction(2, 7), Fraction(3, 7)), helper.simplest(0, 1, 0), helper.simplest(0, 1, 1),
                          helper.simplest(0, 1, 7))
        self.assertEqual(told[2:], [helper.done("1/3")] * 3)


if __name__ == "__main__":
    unittest.main()
