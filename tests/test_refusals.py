"""Each refusal of each call, the order among them, and that a refusal changes nothing."""

import unittest
from fractions import Fraction

import helper

PLACE = (0, 7)
FORM = (0, 8)
BASE = (2, 36)
SIZE = (1, 500)
TIMES = (0, 40)
ROW = (1, 40)
RANK = (0, 1000)
PARTS = (0, 4)
HIGHEST = (1, 60)

# Of each call: its number, its whole numbers' ranges, how many texts it has.
SHAPES = (
    (0, (PLACE, FORM, BASE), 1),
    (1, (PLACE, FORM, BASE), 0),
    (2, (FORM, BASE, FORM, BASE), 1),
    (3, (FORM, BASE), 1),
    (4, (PLACE, PLACE), 0),
    (5, (FORM, BASE), 2),
    (6, (PLACE, PLACE, PLACE), 0),
    (7, (PLACE, PLACE, PLACE), 0),
    (8, (PLACE, PLACE, PLACE), 0),
    (9, (PLACE, PLACE, PLACE), 0),
    (10, (PLACE, TIMES, PLACE), 0),
    (11, (PLACE,), 0),
    (12, (PLACE, SIZE, PLACE), 0),
    (13, (PLACE, SIZE), 0),
    (14, (PLACE, SIZE), 0),
    (15, (PLACE, ROW), 0),
    (16, (ROW, RANK, PLACE), 0),
    (17, (PLACE, PLACE, PLACE), 0),
    (18, (PLACE,), 1),
    (19, (PLACE,), 0),
    (20, (PLACE, BASE), 0),
    (21, (PLACE,), 0),
    (22, (PLACE, PARTS, HIGHEST), 0),
    (23, (PLACE, PLACE, PLACE), 0),
    (24, (PLACE,), 0),
)
NINES = "9" * 300
NO_BYTES = (helper.LEAST, -1000, -1, 256, 48 + 256, 10 ** 6, helper.GREATEST)


def call_of(number, numbers, texts):
    call = [number] + list(numbers)
    for text in texts:
        call += helper.row(text)
    return call


def out_of(limits):
    low, high = limits
    return (helper.LEAST, helper.LEAST + 1, low - 1, high + 1, high + 256, helper.GREATEST - 1, helper.GREATEST)


class OutOfRange(unittest.TestCase):
    def test_every_whole_number_beyond_its_edges(self):
        for number, limits, many in SHAPES:
            good = [low for low, high in limits]
            for place in range(len(limits)):
                for wrong in out_of(limits[place]):
                    numbers = good[:place] + [wrong] + good[place + 1:]
                    for texts in (["1"] * many, ["x"] * many, [[300]] * many):
                        told = helper.ask(call_of(number, numbers, texts))
                        self.assertEqual(told, [[-3]], (number, numbers))

    def test_every_whole_number_at_its_edges(self):
        for number, limits, many in SHAPES:
            for end in (0, 1):
                for place in range(len(limits)):
                    numbers = [low for low, high in limits]
                    numbers[place] = limits[place][end]
                    told = helper.ask(call_of(number, numbers, ["1"] * many))
                    self.assertNotEqual(told, [[-3]], (number, numbers))
            told = helper.ask(call_of(number, [high for low, high in limits], ["1"] * many))
            self.assertNotEqual(told, [[-3]])

    def test_base_is_told_in_every_form(self):
        for form in helper.FORMS:
            for base in (-1, 0, 1, 37, 256):
                told = helper.ask(
                    helper.read(0, form, base, "1"), helper.write(0, form, base), helper.canonical(form, base, "1"),
                    helper.convert(form, base, 0, 10, "1"), helper.convert(0, 10, form, base, "1"),
                    helper.within(form, base, "1", "1"),
                )
                self.assertEqual(told, [[-3]] * 6)


class NotBytes(unittest.TestCase):
    def test_anywhere_in_a_text(self):
        for wrong in NO_BYTES:
            for text in ([wrong], [49, wrong], [wrong, 49], [120, 120, wrong], [49] * 1999 + [wrong]):
                told = helper.ask(
                    helper.read(0, 0, 10, text), helper.convert(0, 10, 0, 10, text), helper.canonical(0, 10, text),
                    helper.within(0, 10, text, "1"), helper.within(0, 10, "1", text), helper.within(0, 10, "", text),
                    helper.numbered(0, text),
                )
                self.assertEqual(told, [[-1]] * 7)

    def test_edges_are_bytes(self):
        for form in helper.FORMS:
            for code in (0, 255):
                self.assertEqual(helper.ask(helper.read(0, form, 36, [code])), [[-1000]])
                self.assertEqual(helper.ask(helper.numbered(0, [code])), [[-4]])


class Others(unittest.TestCase):
    def test_write(self):
        told = helper.ask(
            helper.write(0, 5, 10), helper.read(0, 0, 10, "-1/2"), helper.write(0, 5, 10),
            helper.read(0, 0, 10, "1/10001"), helper.write(0, 7, 10), helper.write(0, 8, 10),
        )
        self.assertEqual([told[0], told[2], told[4], told[5]], [[-6], [-6], [-8], [-8]])

    def test_write_tells_a_road_below_zero_first(self):
        long_one = helper.value_of(2, 10, "0;" + "1," * 1100 + "2")
        told = helper.ask(
            helper.read(0, 0, 10, helper.plain(long_one)), helper.read(1, 0, 10, helper.plain(-long_one)),
            helper.write(0, 5, 10), helper.write(1, 5, 10), helper.write(0, 2, 10), helper.write(1, 2, 10),
        )
        self.assertEqual(told[2:], [[-8], [-6], [-8], [-8]])

    def test_convert(self):
        told = helper.ask(
            helper.convert(3, 10, 5, 10, NINES + " 1/2"), helper.convert(3, 10, 5, 10, "-" + NINES + " 1/2"),
            helper.convert(3, 10, 5, 10, "0"), helper.convert(3, 10, 5, 10, "-1/2"), helper.convert(0, 10, 8, 10, "1/10001"),
            helper.convert(0, 10, 1, 2, NINES), helper.convert(3, 10, 5, 10, "-1 /2"), helper.convert(3, 10, 5, 10, "1 1/2"),
            helper.convert(1, 16, 1, 2, "-f.f"), helper.convert(1, 10, 1, 10, NINES + ".(9)"),
        )
        self.assertEqual(told[:7], [[-8], [-8], [-6], [-6], [-8], [-8], [-1003]])
        self.assertEqual(told[7:], [helper.done("r1l1"), helper.done("-1111.1111"), [-8]])

    def test_texts_of_fractions_that_are_not_small_enough(self):
        for form, text in (
            (1, NINES + ".(9)"), (1, "0." + "0" * 299 + "1"), (1, NINES + ".5"), (2, NINES + ";2"), (2, "0;" + NINES + ",2"),
            (2, "-" + NINES + ";2"), (3, NINES + " 1/2"), (3, "-" + NINES + " 1/2"), (4, NINES + "+1/2"),
            (4, "0+1/" + NINES + "+1/" + "9" * 299 + "8"), (5, "r" + NINES), (5, "l" + NINES), (5, "l1r" + NINES),
            (6, NINES + ":1"), (6, "0:" + "0," * 300 + "1"), (7, "0:" + NINES + ",4"), (8, "0:" + NINES + ",4"),
        ):
            told = helper.ask(
                helper.read(0, form, 10, text), helper.convert(form, 10, 0, 10, text), helper.canonical(form, 10, text),
                helper.within(form, 10, text, text), helper.write(0, 0, 10),
            )
            self.assertEqual(told, [[-8]] * 4 + [helper.done("0")], (form, text[:20]))

    def test_texts_that_are_just_small_enough(self):
        for form, text, value in (
            (1, "0." + "0" * 298 + "1", Fraction(1, 10 ** 299)), (5, "r" + "9" * 299 + "8", 10 ** 300 - 1),
            (5, "l" + "9" * 299 + "8", Fraction(1, 10 ** 300 - 1)), (2, "0;" + NINES, Fraction(1, 10 ** 300 - 1)),
            (3, NINES + "/" + NINES, 1), (3, "0 " + NINES + "/" + NINES, 1), (0, "-" + NINES + "/" + NINES, -1),
            (3, "4" + "9" * 299 + " 1/2", Fraction(10 ** 300 - 1, 2)), (7, "0:" + NINES, Fraction(1, 10 ** 300 - 1)),
        ):
            self.assertEqual(helper.ask(helper.read(0, form, 10, text)), [helper.done(helper.plain(value))])

    def test_what_is_not_small_on_the_way(self):
        """Great numbers on the way to a small fraction don't matter."""
        told = helper.ask(
            helper.read(0, 0, 10, "1" + "0" * 299 + "/" + "2" + "0" * 299),
            helper.read(2, 4, 10, "0" + "+1/1009" * 250),
            helper.read(4, 7, 10, "0:" + "1," * 990 + "1"),
        )
        self.assertEqual(told, [helper.done("1/2"), helper.done("250/1009"), helper.done("991")])
        # 1 less 1 over each place's number, up to just the last, which makes it whole.
        full = ",".join([str(place) for place in range(1, 400)] + ["401"])
        self.assertEqual(helper.value_of(6, 10, "0:" + full), 1)
        self.assertEqual(helper.ask(helper.read(0, 6, 10, "0:" + full), helper.canonical(6, 10, "0:" + full)),
                         [helper.done("1"), [0]])

    def test_div(self):
        told = helper.ask(
            helper.read(0, 0, 10, NINES), helper.div(0, 1, 2), helper.div(1, 1, 2), helper.div(1, 0, 2),
            helper.read(3, 0, 10, "1/2"), helper.div(0, 3, 2), helper.write(2, 0, 10),
        )
        self.assertEqual(told[1:4], [[-5], [-5], helper.done("0")])
        self.assertEqual(told[5:], [[-8], helper.done("0")])

    def test_convergents(self):
        told = helper.ask(helper.read(0, 0, 10, "1" + "0" * 20), helper.convergents(0), helper.convergents(1))
        self.assertEqual(told[1:], [[-8], [1, 1, 48]])

    def test_numbers_of_twenty_digits(self):
        """Either number may be too long for lists of fractions, whatever n is."""
        great = 10 ** 20
        for value, fits in (
            (great - 1, True), (1 - great, True), (Fraction(1, great - 1), True), (Fraction(great - 1, great - 2), True),
            (great, False), (-great, False), (Fraction(1, great), False), (Fraction(-great - 1, great), False),
            (Fraction(great + 1, 2), False), (Fraction(2, great + 1), False), (10 ** 300 - 1, False),
        ):
            for most in (1, 500):
                told = helper.ask(*helper.keeping(value), helper.convergents(0), helper.records(0, most), helper.beside(0, most))
                self.assertEqual([answer == [-8] for answer in told[1:]], [not fits] * 3, (value, most))

    def test_of_one_place(self):
        told = helper.ask(
            *helper.keeping(-1, 0, Fraction(1, 2), 902, Fraction(-1, 3), Fraction(1, 3 ** 10), Fraction(1, 61)),
            helper.number(0), helper.number(1), helper.number(2), helper.number(3), helper.number(4), helper.lengths(5, 2),
            helper.fewest(0, 4, 60), helper.fewest(1, 4, 60), helper.fewest(4, 0, 1), helper.fewest(6, 4, 60),
        )
        self.assertEqual(told[7:], [[-6], [-6], helper.done("2"), [-8], [-6], [-8], [-6], [0], [-6], [-7]])

    def test_of_two_places(self):
        told = helper.ask(
            *helper.keeping(-1, 0, Fraction(1, 2), Fraction(10 ** 300 - 1, 2), 2), helper.simplest(1, 0, 5),
            helper.simplest(2, 0, 5), helper.simplest(2, 1, 5), helper.simplest(0, 2, 5), helper.mediant(3, 4, 5),
            helper.write(5, 0, 10),
        )
        self.assertEqual(told[5:], [[-7], [-7], [-7], helper.done("0"), [-8], helper.done("0")])

    def test_ranked(self):
        told = helper.ask(helper.ranked(1, 1, 0), helper.ranked(1, 2, 0), helper.ranked(40, 490, 0), helper.ranked(40, 491, 0),
                          helper.ranked(40, 1000, 0), helper.ranked(1, 1000, 0), helper.ranked(2, 3, 0))
        self.assertEqual(told, [helper.done("1"), [-7], helper.done("1"), [-7], [-7], [-7], [-7]])


class InOrder(unittest.TestCase):
    def test_from_the_first_to_the_last(self):
        """Each list has every fault that comes behind the one that's answered."""
        great = NINES + " 1/2"
        told = helper.ask(
            helper.within(9, 10, [256], "x"), helper.within(3, 10, [256], "x"), helper.within(3, 10, "x", [256]),
            helper.within(3, 10, great, "2/4x"), helper.within(3, 10, "2/4", "x"), helper.within(3, 10, "2/4", great),
            helper.within(3, 10, great, "2/4"), helper.within(3, 10, "2/4", "1"), helper.within(3, 10, "1", "1"),
        )
        self.assertEqual(told, [[-3], [-1], [-1], [-1003], [-1000], [-8], [-8], [-7], [0]])
        told = helper.ask(
            helper.read(8, 3, 10, [256]), helper.read(0, 3, 10, codes_behind("x", 256)), helper.read(0, 3, 10, great + "x"),
            helper.read(0, 3, 10, great), helper.convert(3, 10, 5, 37, great), helper.convert(3, 10, 9, 10, "x"),
            helper.convert(3, 10, 5, 10, codes_behind("-" + great, -1)), helper.convert(3, 10, 5, 10, "-" + great + "x"),
            helper.convert(3, 10, 5, 10, "-" + great), helper.canonical(3, 1, [256]), helper.canonical(3, 10, [120, 256]),
            helper.canonical(3, 10, great + "x"), helper.canonical(3, 10, great), helper.div(0, 0, 8), helper.div(0, 0, 0),
        )
        self.assertEqual(told, [[-3], [-1], [-1304], [-8], [-3], [-3], [-1], [-1305], [-8], [-3], [-1], [-1304], [-8],
                                [-3], [-5]])


    def test_of_places_and_what_they_hold(self):
        """Each call is refused for its whole numbers before it's looked at what a place holds."""
        keep = helper.keeping(-10 ** 20, 1, 0, Fraction(1, 3 ** 10))
        for call, refusal in (
            (helper.records(0, 0), -3), (helper.records(0, 501), -3), (helper.records(8, 1), -3), (helper.records(0, 1), -8),
            (helper.beside(0, 0), -3), (helper.beside(0, 501), -3), (helper.beside(0, 500), -8), (helper.ranked(1, 1000, 8), -3),
            (helper.ranked(1, 1001, 0), -3), (helper.ranked(1, 1000, 0), -7), (helper.ranked(41, 1000, 0), -3),
            (helper.simplest(1, 0, 8), -3), (helper.simplest(1, 0, 2), -7), (helper.numbered(8, [256]), -3),
            (helper.numbered(0, [120, 256]), -1), (helper.numbered(0, "x"), -4), (helper.number(0), -6),
            (helper.lengths(3, 37), -3), (helper.lengths(3, 1), -3), (helper.lengths(3, 2), -8), (helper.fewest(0, 5, 60), -3),
            (helper.fewest(0, 4, 61), -3), (helper.fewest(0, 4, 0), -3), (helper.fewest(0, 0, 1), -6),
            (helper.fewest(1, 0, 1), -7), (helper.rank(0, 41), -3), (helper.rank(0, 0), -3),
        ):
            self.assertEqual(helper.ask(*keep, call)[4], [refusal], call)


def codes_behind(text, code):
    return helper.codes(text) + [code]


class NothingChanged(unittest.TestCase):
    def test_places_stay(self):
        values = [Fraction(10 ** 300 - 1), Fraction(1, 10 ** 300 - 1), Fraction(-2, 3), Fraction(0), Fraction(22, 7),
                  Fraction(-10 ** 20), Fraction(5), Fraction(1, 10001)]
        keep = [helper.read(place, 0, 10, helper.plain(value)) for place, value in enumerate(values)]
        show = [helper.write(place, 0, 10) for place in range(8)]
        refused = [
            (helper.read(4, 0, 10, "1/0"), -1002), (helper.read(4, 3, 10, NINES + " 1/2"), -8),
            (helper.read(4, 9, 10, "1"), -3), (helper.read(4, 0, 1, "1"), -3), (helper.read(4, 0, 10, [49, 256]), -1),
            (helper.read(-1, 0, 10, "1"), -3), (helper.write(2, 5, 10), -6), (helper.write(0, 1, 2), -8),
            (helper.convert(0, 10, 5, 10, "-1"), -6), (helper.canonical(0, 10, "1 "), -1001),
            (helper.within(0, 10, "2/4", "1"), -7), (helper.add(0, 6, 4), -8), (helper.add(0, 1, 0), -8),
            (helper.sub(5, 0, 0), -8), (helper.mul(0, 0, 4), -8), (helper.mul(1, 1, 1), -8), (helper.div(4, 3, 4), -5),
            (helper.div(0, 1, 0), -8), (helper.power(0, 2, 0), -8), (helper.power(4, 41, 4), -3),
            (helper.power(4, -1, 4), -3), (helper.convergents(5), -8), (helper.convergents(8), -3),
            (helper.best(4, 0, 4), -3), (helper.best(4, 501, 4), -3), (helper.best(4, 1, 8), -3), (helper.add(4, 4, 8), -3),
            (helper.add(4, 8, 4), -3), (helper.add(8, 4, 4), -3), (helper.records(5, 500), -8), (helper.records(4, 0), -3),
            (helper.beside(0, 500), -8), (helper.beside(1, 500), -8), (helper.beside(4, 501), -3), (helper.rank(4, 41), -3),
            (helper.ranked(40, 491, 4), -7), (helper.ranked(40, 490, 8), -3), (helper.simplest(4, 2, 4), -7),
            (helper.simplest(0, 1, 0), -7), (helper.simplest(2, 4, 8), -3), (helper.numbered(4, ""), -4),
            (helper.numbered(4, "01"), -4), (helper.numbered(4, "1" * 301), -4), (helper.numbered(4, [49, 256]), -1),
            (helper.numbered(8, "1"), -3), (helper.number(3), -6), (helper.number(2), -6), (helper.number(7), -8),
            (helper.number(0), -8), (helper.lengths(1, 2), -8), (helper.lengths(4, 37), -3), (helper.ends(8), -3),
            (helper.fewest(2, 4, 60), -6), (helper.fewest(0, 4, 60), -7), (helper.fewest(6, 5, 60), -3), (helper.mediant(0, 4, 4), -8),
            (helper.mediant(4, 4, 8), -3), (helper.floor(8), -3), (helper.floor(-1), -3),
        ]
        expected = [helper.done(helper.plain(value)) for value in values]
        for call, refusal in refused:
            told = helper.ask(*keep, call, *show)
            self.assertEqual(told[8:], [[refusal]] + expected, call[:5])
        told = helper.ask(*keep, *[call for call, refusal in refused], *show)
        self.assertEqual(told[8:], [[refusal] for call, refusal in refused] + expected)


if __name__ == "__main__":
    unittest.main()
