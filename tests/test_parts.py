"""The fewest different unit parts that come to a fraction."""

import itertools
import unittest
from fractions import Fraction

import helper

GREAT = 10 ** 300 - 1


def slow_sums(highest, most):
    """For each sum of at most so many different unit parts the first list of the fewest, all lists being tried."""
    found = {}
    for many in range(most + 1):
        for parts in itertools.combinations(range(1, highest + 1), many):
            found.setdefault(sum((Fraction(1, part) for part in parts), Fraction(0)), list(parts))
    return found


def slow_fewest(value, most, highest):
    """One list after another, with all but the last number tried, for a great highest."""
    for many in range(most + 1):
        if many == 0:
            if value == 0:
                return []
            continue
        for parts in itertools.combinations(range(1, highest + 1), many - 1):
            left = value - sum(Fraction(1, part) for part in parts)
            if left > 0 and left.numerator == 1 and left.denominator <= highest:
                if not parts or left.denominator > parts[-1]:
                    return list(parts) + [left.denominator]
    return None


def answer_of(parts):
    return [-7] if parts is None else [len(parts)] + parts


class Fewest(unittest.TestCase):
    def check(self, cases, expected):
        groups = [helper.keeping(value) + [helper.fewest(0, most, highest), helper.write(0, 0, 10)]
                  for value, most, highest in cases]
        for case, told, parts in zip(cases, helper.ask_groups(groups), expected):
            self.assertEqual(told[1:], [answer_of(parts), helper.done(helper.plain(case[0]))], case)

    def test_by_hand(self):
        for text, most, highest, parts in (
            ("0", 0, 1, []), ("0", 0, 60, []), ("0", 4, 60, []), ("1", 0, 60, None), ("1", 1, 1, [1]), ("1", 4, 60, [1]),
            ("1/2", 0, 60, None), ("1/2", 1, 1, None), ("1/2", 1, 2, [2]), ("1/60", 1, 60, [60]), ("1/60", 4, 59, None),
            ("1/61", 4, 60, None), ("2/3", 1, 60, None), ("2/3", 2, 60, [2, 6]), ("2/3", 2, 5, None), ("2/3", 4, 5, None),
            ("3/2", 2, 2, [1, 2]), ("3/2", 1, 60, None), ("2", 4, 60, [1, 2, 3, 6]), ("2", 3, 60, None), ("2", 4, 5, None),
            ("25/12", 4, 60, [1, 2, 3, 4]), ("25/12", 4, 4, [1, 2, 3, 4]), ("25/12", 4, 3, None), ("3", 4, 60, None),
            ("11/6", 3, 3, [1, 2, 3]), ("4/5", 3, 60, [2, 4, 20]), ("4/5", 4, 19, [2, 5, 10]), ("4/5", 2, 60, None),
            ("5/6", 4, 60, [2, 3]), ("1/3", 1, 60, [3]), ("1/3", 4, 60, [3]), ("5/121", 4, 60, None), ("1/7", 1, 6, None),
            ("26/12", 4, 60, None), ("101/100", 4, 60, None),
        ):
            told = helper.ask(helper.read(0, 0, 10, text), helper.fewest(0, most, highest))
            self.assertEqual(told[1], answer_of(parts), (text, most, highest))

    def test_every_sum_of_small_parts(self):
        """Every list there is, so whatever has several lists of as few parts is among them."""
        for highest in (1, 2, 3, 8, 12):
            sums = {most: slow_sums(highest, most) for most in range(5)}
            values = list(sums[4]) + [value for value in helper.small_fractions(12, 3) if value >= 0]
            cases = [(value, most, highest) for value in values for most in range(5)]
            self.check(cases, [sums[most].get(value) for value, most, highest in cases])

    def test_some_have_several_lists_of_as_few_parts(self):
        found = {}
        for many in (2, 3):
            for parts in itertools.combinations(range(1, 61), many):
                found.setdefault((many, sum(Fraction(1, part) for part in parts)), []).append(list(parts))
        lists = {value: parts for (many, value), parts in found.items() if many == 2}
        for (many, value), parts in found.items():
            if many == 3:
                lists.setdefault(value, parts)
        several = [value for value, parts in lists.items() if len(parts) > 4 and value.numerator > 1]
        self.assertGreater(len(several), 20)
        self.check([(value, 4, 60) for value in several], [lists[value][0] for value in several])
        self.check([(value, 3, 60) for value in several], [lists[value][0] for value in several])

    def test_as_many_as_they_want(self):
        wanted = {1: ["1/7", "1", "1/60"], 2: ["2/3", "3/2", "5/6", "2/9"], 3: ["4/5", "11/6", "7/8"],
                  4: ["2", "25/12", "10/11", "2/11"]}
        for many, texts in wanted.items():
            for text in texts:
                told = helper.ask(helper.read(0, 0, 10, text), *[helper.fewest(0, most, 60) for most in range(5)])[1:]
                expected = answer_of(slow_fewest(Fraction(text), 4, 60))
                self.assertEqual(expected[0], many, text)
                self.assertEqual(told, [[-7]] * many + [expected] * (5 - many), text)

    def test_by_chance_up_to_sixty(self):
        chance = helper.chance(41)
        cases = []
        for _ in range(60):
            parts = chance.sample(range(1, 61), chance.randint(1, 4))
            cases.append((sum(Fraction(1, part) for part in parts), chance.choice([2, 3, 4, 4]), chance.choice([60, 60, 59, 40])))
        self.check(cases, [slow_fewest(*case) for case in cases])

    def test_edges_of_the_highest(self):
        for value, parts in ((Fraction(1, 60), [60]), (Fraction(1, 59) + Fraction(1, 60), [59, 60]),
                             (sum(Fraction(1, part) for part in (57, 58, 59, 60)), [57, 58, 59, 60]),
                             (sum(Fraction(1, part) for part in (1, 58, 59, 60)), [1, 58, 59, 60])):
            told = helper.ask(*helper.keeping(value), helper.fewest(0, 4, 60), helper.fewest(0, 4, 59))
            self.assertEqual(told[1:], [answer_of(parts), [-7]])
        told = helper.ask(*helper.keeping(1, 0, 2), helper.fewest(0, 4, 1), helper.fewest(1, 4, 1), helper.fewest(2, 4, 1))
        self.assertEqual(told[3:], [[1, 1], [0], [-7]])

    def test_below_zero(self):
        for value in (-1, Fraction(-1, 2), -GREAT, Fraction(-1, GREAT)):
            for most, highest in ((0, 1), (4, 60)):
                told = helper.ask(*helper.keeping(value), helper.fewest(0, most, highest))
                self.assertEqual(told[1], [-6])

    def test_great_numbers(self):
        for value in (GREAT, Fraction(1, GREAT), Fraction(GREAT - 1, GREAT), Fraction(GREAT, GREAT - 1),
                      Fraction(GREAT // 7, GREAT - 1)):
            told = helper.ask(*helper.keeping(value), *[helper.fewest(0, most, 60) for most in range(5)])
            self.assertEqual(told[1:], [[-7]] * 5)


if __name__ == "__main__":
    unittest.main()
