"""Promise 1, from the fraction: what is written, that it is read back, and which fractions have no text."""

import math
import unittest
from fractions import Fraction

import helper

BASES = (2, 3, 7, 10, 12, 16, 35, 36)

# (fraction, form, base, text), by hand.
WRITTEN = (
    ("0", 0, 10, "0"), ("5", 0, 10, "5"), ("-5", 0, 10, "-5"), ("-7/2", 0, 10, "-7/2"),
    ("0", 1, 10, "0"), ("1/3", 1, 10, "0.(3)"), ("1/3", 1, 12, "0.4"), ("1/3", 1, 2, "0.(01)"),
    ("1/6", 1, 10, "0.1(6)"), ("-1/6", 1, 10, "-0.1(6)"), ("1/7", 1, 10, "0.(142857)"),
    ("1/28", 1, 10, "0.03(571428)"), ("-5/2", 1, 10, "-2.5"), ("35", 1, 36, "z"), ("-1295", 1, 36, "-zz"),
    ("36", 1, 36, "10"), ("1/35", 1, 36, "0.(1)"), ("34/35", 1, 36, "0.(y)"), ("1/2", 1, 36, "0.i"),
    ("1/10", 1, 2, "0.0(0011)"), ("10", 1, 2, "1010"), ("1/2", 1, 3, "0.(1)"),
    ("0", 2, 10, "0"), ("-7/2", 2, 10, "-4;2"), ("415/93", 2, 10, "4;2,6,7"), ("1/2", 2, 10, "0;2"),
    ("-1/2", 2, 10, "-1;2"), ("3", 2, 10, "3"), ("-1/3", 2, 10, "-1;1,2"),
    ("0", 3, 10, "0"), ("-7/2", 3, 10, "-3 1/2"), ("1/2", 3, 10, "1/2"), ("-1/2", 3, 10, "-1/2"),
    ("-4", 3, 10, "-4"), ("22/7", 3, 10, "3 1/7"),
    ("0", 4, 10, "0"), ("-7/2", 4, 10, "-4+1/2"), ("4/5", 4, 10, "0+1/2+1/4+1/20"), ("3", 4, 10, "3"),
    ("5/121", 4, 10, "0+1/25+1/757+1/763309+1/873960180913+1/1527612795642093418846225"),
    ("1", 5, 10, "o"), ("2", 5, 10, "r1"), ("1/2", 5, 10, "l1"), ("3/2", 5, 10, "r1l1"),
    ("2/3", 5, 10, "l1r1"), ("7", 5, 10, "r6"), ("1/7", 5, 10, "l6"), ("415/93", 5, 10, "r4l2r6l6"),
    ("0", 6, 10, "0"), ("1/3", 6, 10, "0:0,2"), ("-1/3", 6, 10, "-1:1,1"), ("1/2", 6, 10, "0:1"),
    ("23/24", 6, 10, "0:1,2,3"), ("1/5", 6, 10, "0:0,1,0,4"),
    ("0", 7, 10, "0"), ("1/3", 7, 10, "0:3"), ("4/5", 7, 10, "0:2,2,5"), ("-1/3", 7, 10, "-1:2,3"),
    ("47/40", 7, 10, "1:6,20"),
    ("0", 8, 10, "0"), ("1/3", 8, 10, "0:3"), ("2/3", 8, 10, "0:1,3"), ("-1/3", 8, 10, "-1:1,3"),
    ("4/5", 8, 10, "0:1,5"), ("5/7", 8, 10, "0:1,3,7"),
)


def written(value, form, base):
    """What keeping a fraction, given as a plain text, and writing it answers."""
    return helper.ask(helper.read(3, 0, 10, helper.plain(value)), helper.write(3, form, base))[1]


def lower_with_period(base, first, second):
    """What's below a stroke for digits that repeat after two numbers' least common multiple."""
    return math.lcm(base ** first - 1, base ** second - 1)


class Written(unittest.TestCase):
    def test_by_hand(self):
        for value, form, base, text in WRITTEN:
            with self.subTest(value=value, form=form, base=base):
                self.assertEqual(written(value, form, base), helper.done(text))

    def check_round(self, values, form, base):
        """Written as reckoned slowly; read back as the same; the written one; written so again."""
        groups = []
        for value in values:
            text = helper.text_of(form, base, value)
            groups.append([
                helper.read(0, 0, 10, helper.plain(value)),
                helper.write(0, form, base),
                helper.read(1, form, base, text),
                helper.compare(0, 1),
                helper.canonical(form, base, text),
                helper.convert(form, base, form, base, text),
            ])
        for value, told in zip(values, helper.ask_groups(groups)):
            text = helper.done(helper.text_of(form, base, value))
            kept = helper.done(helper.plain(value))
            with self.subTest(value=value, form=form, base=base):
                self.assertEqual(told, [kept, text, kept, [0], [1], text])

    def test_all_small_fractions(self):
        values = helper.small_fractions(12, 2)
        for form in helper.FORMS:
            self.check_round([value for value in values if form != 5 or value > 0], form, 10)

    def test_all_bases(self):
        values = helper.small_fractions(9, 1) + [Fraction(1000001, 36), Fraction(-46655, 7)]
        for base in range(2, 37):
            self.check_round(values, 1, base)

    def test_fractions_of_middle_size(self):
        chance = helper.chance(1)
        for form in helper.FORMS:
            for base in BASES if form == 1 else (10,):
                values = []
                while len(values) < 25:
                    above = chance.randint(-3000, 3000)
                    value = Fraction(above, chance.randint(1, 60 if form == 4 else 250))
                    if form != 5 or value > 0:
                        values.append(value)
                self.check_round(values, form, base)

    def test_base_does_not_matter_but_in_form_1(self):
        for form in helper.FORMS:
            texts = {tuple(written(Fraction(22, 7), form, base)) for base in range(2, 37)}
            self.assertEqual(len(texts), 35 if form == 1 else 1)


class Edges(unittest.TestCase):
    def check_text(self, value, form, base, text):
        """A fraction near an edge that has a text."""
        told = helper.ask(
            helper.read(0, 0, 10, helper.plain(value)),
            helper.write(0, form, base),
            helper.read(1, form, base, text),
            helper.compare(0, 1),
            helper.canonical(form, base, text),
        )
        self.assertEqual(told[1], helper.done(text))
        self.assertEqual(told[2:], [helper.done(helper.plain(value)), [0], [1]])

    def check_none(self, value, form, base, refusal=-8):
        """A fraction beyond it."""
        kept = helper.plain(value)
        told = helper.ask(
            helper.read(0, 0, 10, kept),
            helper.write(0, form, base),
            helper.convert(0, 10, form, base, kept),
            helper.write(0, 0, 10),
        )
        self.assertEqual(told, [helper.done(kept), [refusal], [refusal], helper.done(kept)])

    def test_expansion_digits_before_the_point(self):
        for base in (2, 3, 9):
            top = helper.DIGITS[base - 1]
            for sign in (1, -1):
                self.check_text(sign * (base ** 300 - 1), 1, base, "-" * (sign < 0) + top * 300)
                self.check_none(sign * base ** 300, 1, base)
        self.check_text(10 ** 300 - 1, 1, 10, "9" * 300)
        self.check_text(1 - 10 ** 300, 1, 10, "-" + "9" * 300)
        self.check_text(36 ** 192, 1, 36, "1" + "0" * 192)

    def test_expansion_digits_before_the_brackets(self):
        self.check_text(Fraction(1, 2 ** 300), 1, 2, "0." + "0" * 299 + "1")
        self.check_none(Fraction(1, 2 ** 301), 1, 2)
        self.check_none(Fraction(-1, 2 ** 301), 1, 2)
        self.check_text(Fraction(1, 2 ** 300), 1, 10, "0." + str(5 ** 300).zfill(300))
        self.check_none(Fraction(1, 2 ** 301), 1, 10)
        self.check_text(Fraction(1, 3 * 2 ** 300), 1, 2, "0." + "0" * 300 + "(01)")
        self.check_none(Fraction(1, 3 * 2 ** 301), 1, 2)
        self.check_text(Fraction(1, 2 ** 600), 1, 36, helper.text_of(1, 36, Fraction(1, 2 ** 600)))
        self.check_none(Fraction(1, 2 ** 601), 1, 36)

    def test_expansion_digits_within_the_brackets(self):
        self.check_text(Fraction(1, 2 ** 300 - 1), 1, 2, "0.(" + "0" * 299 + "1)")
        self.check_none(Fraction(1, 2 ** 301 - 1), 1, 2)
        for base in (2, 7, 10, 36):
            value = Fraction(-1, lower_with_period(base, 12, 25))
            self.check_text(value, 1, base, helper.text_of(1, base, value))
            self.check_none(Fraction(1, lower_with_period(base, 7, 43)), 1, base)

    def test_expansion_with_all_rows_full(self):
        lower = lower_with_period(2, 12, 25)
        value = 2 ** 300 - 1 + Fraction(1, lower * 2 ** 300)
        text = helper.text_of(1, 2, value)
        self.assertEqual(len(text), 903)
        self.check_text(value, 1, 2, text)
        self.check_text(-value, 1, 2, "-" + text)
        self.check_none(value + 1, 1, 2)
        self.check_none(value / 2, 1, 2)
        self.check_none(Fraction(1, lower_with_period(2, 7, 43) * 2 ** 300), 1, 2)
        self.check_none(Fraction(1, lower_with_period(2, 2, 151) * 2 ** 299), 1, 2)

    def test_continued_bytes(self):
        ones = "1," * 998 + "2"
        for text, fits in (("10;" + ones, True), ("100;" + ones, False), ("-9;" + ones, True), ("-10;" + ones, False)):
            value = helper.value_of(2, 10, text)
            self.assertEqual(len(text), 2000 if fits else 2001)
            if fits:
                self.check_text(value, 2, 10, text)
            else:
                self.check_none(value, 2, 10)

    def test_road_bytes(self):
        full = "r1l1" * 500
        over = "r1l1" * 499 + "r1l10"
        self.assertEqual((len(full), len(over)), (2000, 2001))
        self.check_text(helper.value_of(5, 10, full), 5, 10, full)
        self.check_none(helper.value_of(5, 10, over), 5, 10)

    def test_road_at_zero_and_below(self):
        for value in (0, -1, Fraction(-1, 2), 1 - 10 ** 300, Fraction(-1, 10 ** 300 - 1)):
            self.check_none(value, 5, 10, -6)
        self.check_text(Fraction(1, 10 ** 300 - 1), 5, 10, "l" + str(10 ** 300 - 2))
        self.check_text(10 ** 300 - 1, 5, 10, "r" + str(10 ** 300 - 2))

    def test_unit_parts_digits(self):
        nines = 10 ** 300 - 1
        self.check_text(Fraction(1, nines), 4, 10, "0+1/" + "9" * 300)
        self.check_text(Fraction(10 ** 298, 10 ** 299 - 1), 4, 10, "0+1/10+1/" + "9" * 299 + "0")
        self.check_none(Fraction(10 ** 299, nines), 4, 10)
        self.check_none(Fraction(10 ** 299, nines) - 1, 4, 10)
        self.check_none(Fraction(nines - 1, nines), 4, 10)

    def test_factorial_numbers(self):
        edge = Fraction(1, 7 ** 49)
        text = helper.text_of(6, 10, edge)
        self.assertEqual(text.count(","), 299)
        self.check_text(edge, 6, 10, text)
        self.check_text(edge - 5, 6, 10, helper.text_of(6, 10, edge - 5))
        beyond = Fraction(1, 151 ** 2)
        self.assertEqual(helper.text_of(6, 10, beyond).count(","), 300)
        self.check_none(beyond, 6, 10)
        self.check_none(beyond - 3, 6, 10)
        self.check_none(Fraction(1, 307), 6, 10)
        self.check_none(Fraction(1, 10 ** 300 - 1), 6, 10)

    def test_engel_and_pierce_below_the_stroke(self):
        for form in (7, 8):
            for above in (1, 3, 9999, -1, -9999, 123456789):
                value = Fraction(above, 10000)
                self.check_text(value, form, 10, helper.text_of(form, 10, value))
                self.check_none(Fraction(above, 10001), form, 10)
            whole = 10 ** 300 - 1
            self.check_text(whole, form, 10, str(whole))
            self.check_none(Fraction(1, whole), form, 10)

    def test_greatest_numbers_in_every_form(self):
        nines = "9" * 300
        lower = "9" * 299 + "8"
        value = Fraction(int(nines), int(lower))
        self.check_text(value, 0, 10, nines + "/" + lower)
        self.check_text(-value, 0, 10, "-" + nines + "/" + lower)
        self.check_text(value, 2, 10, "1;" + lower)
        self.check_text(value, 3, 10, "1 1/" + lower)
        self.check_text(value, 4, 10, "1+1/" + lower)
        self.check_text(value, 5, 10, "r1l" + "9" * 299 + "7")
        for form in (0, 1, 2, 3, 4, 6, 7, 8):
            self.check_text(int(nines), form, 10, nines)
            self.check_text(-int(nines), form, 10, "-" + nines)


if __name__ == "__main__":
    unittest.main()
