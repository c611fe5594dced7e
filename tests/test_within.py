"""Promise 2: comparing written texts within a form says what comparing their fractions says."""

import unittest
from fractions import Fraction

import helper


def order_of(first, second):
    return 1 if first < second else 2 if second < first else 0


class Within(unittest.TestCase):
    def check_pairs(self, form, base, pairs):
        """Each pair both ways round and each text with itself, against compare and against Python's fractions."""
        groups = []
        expected = []
        for first, second in pairs:
            texts = [helper.text_of(form, base, value) for value in (first, second)]
            groups.append([
                helper.read(1, 0, 10, helper.plain(first)),
                helper.read(2, 0, 10, helper.plain(second)),
                helper.compare(1, 2),
                helper.within(form, base, texts[0], texts[1]),
                helper.compare(2, 1),
                helper.within(form, base, texts[1], texts[0]),
                helper.compare(1, 1),
                helper.within(form, base, texts[0], texts[0]),
            ])
            there, back = order_of(first, second), order_of(second, first)
            expected.append([[there], [there], [back], [back], [0], [0]])
        for pair, told, told_slowly in zip(pairs, helper.ask_groups(groups), expected):
            if told[2:] != told_slowly:
                self.fail((form, base, pair, told[2:], told_slowly))

    def test_small_fractions_with_one_another(self):
        values = helper.small_fractions(5, 1) + [Fraction(above, 6) for above in (-37, -13, 11, 13, 55, 61)]
        for form in helper.FORMS:
            fit = [value for value in values if form != 5 or value > 0]
            pairs = [(first, second) for place, first in enumerate(fit) for second in fit[place:]]
            for base in (2, 3, 10, 36) if form == 1 else (10,):
                self.check_pairs(form, base, pairs)

    def test_roads_with_one_another(self):
        values = [Fraction(above, below) for above in range(1, 9) for below in range(1, 9)]
        self.check_pairs(5, 10, [(first, second) for first in values for second in values])

    def test_neighbours(self):
        """The nearer two fractions are, the later their texts part."""
        values = [value for value in helper.small_fractions(40, 1) if value > 0]
        pairs = list(zip(values, values[1:]))
        for form in helper.FORMS:
            for base in (2, 7, 36) if form == 1 else (10,):
                self.check_pairs(form, base, pairs)
                if form != 5:
                    self.check_pairs(form, base, [(first - 3, second - 3) for first, second in pairs])
                    self.check_pairs(form, base, [(-first, -second) for first, second in pairs])

    def test_by_chance(self):
        chance = helper.chance(4)
        for form in helper.FORMS:
            pairs = []
            while len(pairs) < 150:
                first = Fraction(chance.randint(-400, 400), chance.randint(1, 50))
                second = first + Fraction(chance.choice([-1, 0, 1]), chance.randint(1, 50))
                if form != 5 or (first > 0 and second > 0):
                    pairs.append((first, second))
            self.check_pairs(form, chance.randint(2, 36), pairs)

    def test_wholes_of_many_lengths(self):
        wholes = [0, 1, 2, 9, 10, 11, 99, 100, 101, 2 ** 64, 10 ** 299, 10 ** 300 - 2, 10 ** 300 - 1]
        for form in (0, 1, 2, 3, 4, 6, 7, 8):
            values = wholes + [-whole for whole in wholes[1:]]
            self.check_pairs(form, 10, [(first, second) for first in values for second in values])

    def test_one_begins_as_the_other(self):
        for form, texts in (
            (1, ("0.3", "0.33", "0.333", "0.(3)", "0.34", "0.3(4)", "0.(34)", "0.(343)", "0.3(434)", "3", "3.3", "33")),
            (2, ("1", "1;2", "1;2,3", "1;2,3,4", "1;2,3,5", "1;2,4", "1;3", "2", "1;1,2", "1;2,2")),
            (4, ("0", "0+1/2", "0+1/2+1/3", "0+1/2+1/3+1/7", "0+1/2+1/4", "0+1/3", "0+1/3+1/7", "1", "-1+1/2")),
            (5, ("o", "r1", "r2", "r1l1", "r1l1r1", "r1l1r2", "r1l2", "l1", "l2", "l1r1", "l1r1l1", "l1r2")),
            (6, ("0", "0:1", "0:1,1", "0:1,1,1", "0:1,0,1", "0:1,2", "0:0,1", "0:0,0,3", "1", "-1:1")),
            (7, ("0", "0:2", "0:2,2", "0:2,2,2", "0:2,3", "0:2,2,3", "0:3", "0:3,3", "1", "-1:2")),
            (8, ("0", "0:1,3", "0:1,3,6", "0:1,4", "0:1,3,5", "0:2", "0:2,5", "0:2,4,7", "1", "-1:2")),
        ):
            values = [helper.value_of(form, 10, text) for text in texts]
            self.assertEqual([helper.text_of(form, 10, value) for value in values], list(texts))
            self.check_pairs(form, 10, [(first, second) for first in values for second in values])

    def test_long_expansions_that_part_late(self):
        base = 2
        words = ["1", "10"]
        while len(words[-1]) < 233:
            words.append(words[-1] + words[-2])
        texts = [f"0.({words[-1]})", f"0.({words[-2]})", f"0.{words[-1]}", "0.1" + "0" * 299, "0.1" + "0" * 298 + "1"]
        texts += ["0.(" + "0" * 299 + "1)", "0.(" + "0" * 298 + "1)", "0." + "0" * 299 + "1", "0." + "0" * 300 + "(01)"]
        values = [helper.value_of(1, base, text) for text in texts]
        values += [-value for value in values]
        self.check_pairs(1, base, [(first, second) for first in values for second in values])

    def test_long_decimals_that_part_late(self):
        values = [Fraction(1, 3), Fraction(int("3" * 299), 10 ** 299)]
        values += [Fraction(int("3" * 298 + "4"), 10 ** 299), Fraction(2, 3), Fraction(int("6" * 299), 10 ** 299)]
        values += [Fraction(int("6" * 298 + "7"), 10 ** 299)]
        values += [-value for value in values]
        self.check_pairs(1, 10, [(first, second) for first in values for second in values])

    def test_long_continued_fractions_and_roads(self):
        ones = ",".join(["1"] * 600)
        for last, following in (("2", "3"), ("2", "1,2"), ("9", "9,9")):
            first = helper.value_of(2, 10, f"0;{ones},{last}")
            second = helper.value_of(2, 10, f"0;{ones},{following}")
            for form in (2, 5):
                self.check_pairs(form, 10, [(first, second), (first, first + 1), (second + 1, first + 1)])

    def test_long_numbers(self):
        great = 10 ** 300 - 1
        pairs = [
            (Fraction(1, great), Fraction(1, great - 1)),
            (Fraction(great, great - 1), Fraction(great - 1, great - 2)),
            (Fraction(1, great), Fraction(0)),
            (Fraction(10 ** 299 + 1, 10 ** 299), Fraction(10 ** 299 + 2, 10 ** 299 + 1)),
        ]
        for form in (0, 2, 3, 4, 5):
            self.check_pairs(form, 10, [pair for pair in pairs if form != 5 or min(pair) > 0])
        for form in (0, 2, 3):
            self.check_pairs(form, 10, [(-first, -second) for first, second in pairs])

    def test_many_numbers(self):
        edge = Fraction(1, 7 ** 49)
        self.check_pairs(6, 10, [(edge, 2 * edge), (edge - 1, 2 * edge - 1), (edge, Fraction(0)), (edge, -edge)])
        values = [Fraction(above, below) for below in (9973, 9999, 10000) for above in (1, 4999, below - 1, -1, 12345)]
        for form in (7, 8):
            self.check_pairs(form, 10, [(first, second) for first in values for second in values])


class Refused(unittest.TestCase):
    def test_texts_that_are_not_the_written_one(self):
        for form, base, written, other in (
            (0, 10, "1/2", "2/4"), (1, 10, "0.5", "0.50"), (1, 10, "1", "0.(9)"), (1, 2, "0", "-0"), (1, 36, "0.i", "0.h(z)"),
            (2, 10, "2", "1;1"), (3, 10, "1/2", "0 1/2"), (4, 10, "1", "0+1/2+1/2"), (6, 10, "0:1", "0:1,0"),
            (7, 10, "1", "0:1"), (8, 10, "0:2", "0:1,2"),
        ):
            told = helper.ask(
                helper.within(form, base, written, written),
                helper.within(form, base, written, other),
                helper.within(form, base, other, written),
                helper.within(form, base, other, other),
            )
            self.assertEqual(told, [[0], [-7], [-7], [-7]], (form, written, other))

    def test_fractions_that_are_not_small_enough(self):
        nines = "9" * 300
        for form, great, other in ((1, nines + ".(9)", "1.0"), (3, nines + " 1/2", "2/4"), (4, nines + "+1/2", "0+1/2+1/2"),
                                   (2, nines + ";2", "1;1"), (6, nines + ":1", "0:0"), (7, nines + ":2", "0:1"),
                                   (8, nines + ":2", "0:1")):
            told = helper.ask(
                helper.within(form, 10, great, "1"),
                helper.within(form, 10, "1", great),
                helper.within(form, 10, great, other),
                helper.within(form, 10, other, great),
                helper.within(form, 10, other, "1"),
            )
            self.assertEqual(told, [[-8]] * 4 + [[-7]], form)
        told = helper.ask(helper.within(5, 10, "r" + nines, "o"), helper.within(5, 10, "o", "r" + nines))
        self.assertEqual(told, [[-8], [-8]])


if __name__ == "__main__":
    unittest.main()
