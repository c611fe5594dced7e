"""How long expansions are, and where they have no brackets: lengths and ends."""

import math
import unittest
from fractions import Fraction

import helper

BASES = range(2, 37)
GREAT = 10 ** 300 - 1

# For the bases from 2 on: a number whose expansion repeats just 20000 digits, and one with 20001 (none found for 35).
JUST_ENOUGH = (
    204803125, 12503125, 2003125, 414882593, 1103125, 5515625, 603125, 5003125, 56480353, 2003125, 6503125, 8303125, 603125,
    3534007, 856803125, 803125, 25015625, 303125, 26190097, 3803125, 1403125, 603125, 3015625, 102560641, 1584015625, 12503125,
    303125, 900001, 50925097, 5903125, 1024015625, 1803125, 303125, 28129327, 5003125,
)
ONE_MORE = (
    4271496887, 2092259, 4501637, 826739, 1146767, 1448487, 263138209, 1126601, 19533123, 1876609, 227127347, 15144561,
    11445845780389, 1683704498761, 1126601, 3761732707, 1190626969, 4345461, 47760926401, 74516609, 8292759399333, 186683,
    4682838227539, 1126601, 15272333, 121833851, 19545381, 2092259, 186683, 661154139, 112062377, 159397767643, 1559991897,
    None, 826739,
)
# How many digits repeat, in which base, over which prime.
ABOUT_THE_EDGE = (
    (19880, 9, 39761), (19881, 4, 198811), (19882, 3, 119293), (19998, 3, 99991), (19999, 6, 79997), (20000, 21, 180001),
    (20001, 4, 160009), (20002, 22, 360037), (20021, 4, 160169), (20022, 3, 20023), (20023, 5, 200231), (20024, 2, 400481),
    (20163, 16, 403261), (20164, 7, 60493), (40000, 33, 160001),
)


def slow_lengths(value, base):
    """Long division, rest by rest, until one comes again; refused where none does though it would have to."""
    below = value.denominator
    rest = abs(value.numerator) % below
    seen = {}
    while rest and rest not in seen:
        if len(seen) > 20000 + below.bit_length():
            return [-8]
        seen[rest] = len(seen)
        rest = rest * base % below
    once = seen.get(rest, len(seen))
    return [once, len(seen) - once] if len(seen) - once <= 20000 else [-8]


def slow_ends(value):
    """The bases that every prime of what's below goes into."""
    return [base for base in BASES if all(base % prime == 0 for prime in primes_in(value.denominator))]


def primes_in(number):
    found = []
    divisor = 2
    while number > 1:
        while number % divisor == 0:
            number //= divisor
            found.append(divisor)
        divisor += 1
    return found


def rows_of(text):
    behind = text.partition(".")[2].rstrip(")")
    before, _, inside = behind.partition("(")
    return [len(before), len(inside)]


def is_prime(number):
    return number > 1 and all(number % other for other in range(2, math.isqrt(number) + 1))


def is_first_return(base, below, many):
    """Whether just so many digits repeat: so many times the base leaves 1, and no part of so many does."""
    parts = [many // prime for prime in primes_in(many)]
    return pow(base, many, below) == 1 and all(pow(base, part, below) != 1 for part in parts)


class Lengths(unittest.TestCase):
    def check(self, values, bases):
        groups = [helper.keeping(value) + [helper.lengths(0, base) for base in bases] for value in values]
        for value, told in zip(values, helper.ask_groups(groups)):
            for base, answer in zip(bases, told[1:]):
                self.assertEqual(answer, slow_lengths(value, base), (value, base))

    def test_by_hand(self):
        for text, base, answer in (
            ("0", 10, [0, 0]), ("5", 2, [0, 0]), ("-5", 36, [0, 0]), ("1/2", 10, [1, 0]), ("1/3", 10, [0, 1]),
            ("1/6", 10, [1, 1]), ("1/7", 10, [0, 6]), ("-1/7", 10, [0, 6]), ("22/7", 10, [0, 6]), ("1/12", 10, [2, 1]), ("1/12", 12, [1, 0]),
            ("1/3", 12, [1, 0]), ("1/8", 10, [3, 0]), ("1/8", 4, [2, 0]), ("1/8", 16, [1, 0]), ("1/9", 10, [0, 1]),
            ("1/11", 10, [0, 2]), ("1/97", 10, [0, 96]), ("1/35", 36, [0, 1]), ("1/37", 36, [0, 2]), ("1/1296", 36, [2, 0]),
            ("1/1297", 36, [0, 4]), ("1/3", 2, [0, 2]), ("1/6", 2, [1, 2]), ("7/24", 10, [3, 1]),
        ):
            told = helper.ask(helper.read(0, 0, 10, text), helper.lengths(0, base))
            self.assertEqual(told[1], answer, (text, base))

    def test_every_base(self):
        self.check([Fraction(1, below) for below in range(1, 161)], BASES)
        self.check(helper.small_fractions(9, 2), (2, 3, 6, 10, 35, 36))
        self.check([Fraction(-7, base ** times) for base in BASES for times in (1, 2)], (2, 6, 10, 12, 30, 36))
        for base in BASES:
            many = [Fraction(1, base), Fraction(-1, base ** 3), Fraction(1, base + 1), Fraction(-1, base * base + 1),
                    Fraction(1, base * (base + 1)), Fraction(1, base ** 4 * (base * base + base + 1))]
            self.check(many + ([Fraction(1, base - 1)] if base > 2 else []), (base,))

    def test_what_is_written_is_as_long(self):
        values = [Fraction(above, below) for below in range(1, 60) for above in (1, -1, below + 1) if math.gcd(above, below) == 1]
        for base in (2, 3, 7, 10, 12, 36):
            groups = [helper.keeping(value) + [helper.lengths(0, base), helper.write(0, 1, base)] for value in values]
            for value, told in zip(values, helper.ask_groups(groups)):
                self.assertEqual(told[1], rows_of(bytes(told[2][1:]).decode()), (value, base))

    def test_all_lengths_about_the_strides(self):
        """Primes that repeat more and more digits, so that none is skipped on the way."""
        self.check([Fraction(1, prime) for prime in range(100, 1500) if is_prime(prime)], (2, 10, 35))

    def check_edge(self, many, base, below):
        self.assertTrue(is_first_return(base, below, many), (many, base, below))
        values = [(Fraction(1, below), 0), (Fraction(-below - 1, below), 0), (Fraction(1, below * base ** 2), 2)]
        for value, once in values:
            told = helper.ask(*helper.keeping(value), helper.lengths(0, base), helper.write(0, 0, 10))
            self.assertEqual(told[1], [once, many] if many <= 20000 else [-8], (many, base, below))
            self.assertEqual(told[2], helper.done(helper.plain(value)))

    def test_just_twenty_thousand_repeat_in_every_base(self):
        self.assertEqual((len(JUST_ENOUGH), len(ONE_MORE)), (len(BASES), len(BASES)))
        for base, enough, more in zip(BASES, JUST_ENOUGH, ONE_MORE):
            self.check_edge(20000, base, enough)
            if more:
                self.check_edge(20001, base, more)

    def test_about_twenty_thousand_repeat(self):
        for many, base, prime in ABOUT_THE_EDGE:
            self.check_edge(many, base, prime)

    def test_three_hundred_digits_below(self):
        for below, base, answer in (
            (GREAT, 10, [0, 300]), (10 ** 299, 10, [299, 0]), (2 ** 996, 2, [996, 0]), (2 ** 996, 10, [996, 0]),
            (2 ** 996, 4, [498, 0]), (2 ** 996, 32, [200, 0]), (2 ** 996, 36, [498, 0]), (2 ** 996 - 1, 2, [0, 996]),
            (2 ** 996 - 1, 4, [0, 498]), (36 ** 192, 36, [192, 0]), (36 ** 192 - 1, 36, [0, 192]), (3 ** 628, 3, [628, 0]),
            (3 ** 628, 6, [628, 0]), (3 ** 628, 2, [-8]), (3 ** 628, 10, [-8]), (2 ** 500 * (2 ** 490 + 1), 2, [500, 980]),
            (10 ** 299 + 1, 10, [0, 598]), (2 ** 500 * 3 ** 300, 6, [500, 0]), (2 ** 500 * 3 ** 300, 36, [250, 0]),
            (2 ** 500 * 3 ** 300, 12, [300, 0]), (GREAT - 1, 2, [-8]), (10 ** 149 * (10 ** 150 - 1), 10, [149, 150]),
            (2 ** 995, 7, [-8]), (5 ** 8, 2, [-8]),
        ):
            for above in (1, -1, below + 1):
                if len(str(above)) <= 300:
                    told = helper.ask(*helper.keeping(Fraction(above, below)), helper.lengths(0, base))
                    self.assertEqual(told[1], answer, (str(below)[:20], base))

    def test_powers_of_a_prime(self):
        """5 to the n repeats 4 times 5 to the n less 1 digits to the base 2."""
        self.check([Fraction(1, 5 ** times) for times in range(1, 7)] + [Fraction(1, 3 ** times) for times in range(1, 10)], (2,))
        told = helper.ask(*helper.keeping(Fraction(1, 3 ** 9), Fraction(1, 3 ** 10)), helper.lengths(0, 2), helper.lengths(1, 2))
        self.assertEqual(told[2:], [[0, 2 * 3 ** 8], [-8]])


class Ends(unittest.TestCase):
    def check(self, values):
        groups = [helper.keeping(value) + [helper.ends(0), helper.write(0, 0, 10)] for value in values]
        for value, told in zip(values, helper.ask_groups(groups)):
            self.assertEqual(told[1:], [[0] + slow_ends(value), helper.done(helper.plain(value))], value)

    def test_small_fractions(self):
        self.check(helper.small_fractions(40, 1))

    def test_by_hand(self):
        every = list(BASES)
        for text, bases in (
            ("0", every), ("7", every), ("-7", every), ("1/2", every[::2]), ("-1/3", every[1::3]), ("1/4", every[::2]),
            ("1/6", [6, 12, 18, 24, 30, 36]), ("5/12", [6, 12, 18, 24, 30, 36]), ("1/10", [10, 20, 30]), ("1/30", [30]),
            ("1/31", [31]), ("1/961", [31]), ("1/36", [6, 12, 18, 24, 30, 36]), ("1/35", [35]), ("1/37", []), ("1/42", []),
            ("1/74", []), ("1/210", []), ("1/17", [17, 34]), ("1/49", [7, 14, 21, 28, 35]), ("-22/7", [7, 14, 21, 28, 35]),
        ):
            told = helper.ask(helper.read(0, 0, 10, text), helper.ends(0))
            self.assertEqual(told[1], [0] + bases, text)

    def test_powers(self):
        self.check([Fraction(1, base ** times) for base in BASES for times in (1, 2, 5)])

    def test_great_numbers(self):
        every = list(BASES)
        for below, bases in (
            (2 ** 996, every[::2]), (3 ** 628, every[1::3]), (5 ** 429, [5, 10, 15, 20, 25, 30, 35]), (31 ** 201, [31]),
            (10 ** 299, [10, 20, 30]), (GREAT, []), (2 ** 994 * 3, [6, 12, 18, 24, 30, 36]), (2 ** 990 * 37, []),
            (2 ** 600 * 3 ** 200, [6, 12, 18, 24, 30, 36]), (35 ** 190, [35]), (2 ** 996 - 1, []),
        ):
            told = helper.ask(*helper.keeping(Fraction(1, below), Fraction(1 - below, below)), helper.ends(0), helper.ends(1))
            self.assertEqual(told[2:], [[0] + bases] * 2)

    def test_ends_and_lengths_agree(self):
        for below in (1, 2, 48, 77, 1024, 6 ** 20, 30 ** 30, 2 ** 996, 3 ** 628, 31 ** 3 * 2):
            told = helper.ask(*helper.keeping(Fraction(1, below)), helper.ends(0), *[helper.lengths(0, base) for base in BASES])
            without = [base for base, answer in zip(BASES, told[2:]) if answer[1:] == [0]]
            self.assertEqual(told[1], [0] + without)


if __name__ == "__main__":
    unittest.main()
