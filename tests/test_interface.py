"""The list that's handed in and the list that's given back; long lists, long texts, great numbers."""

import copy
import subprocess
import sys
import time
import unittest
from fractions import Fraction
from pathlib import Path

import helper
from fractionforms.desk import answers

NINES = "9" * 300
# Seconds that a person would wait for a whole list.
PATIENCE = 20
TOP = Path(__file__).resolve().parent.parent


def mixed_calls():
    """Every call, some refused, on several places."""
    return [
        helper.read(0, 0, 10, "22/7"), helper.read(1, 1, 10, "0.(3)"), helper.write(0, 4, 10),
        helper.convert(1, 2, 6, 10, "0.1(01)"), helper.canonical(2, 10, "1;1"), helper.compare(0, 1),
        helper.within(1, 10, "0.(3)", "0.34"), helper.add(0, 1, 2), helper.sub(0, 1, 3), helper.mul(0, 1, 4),
        helper.div(0, 1, 5), helper.power(1, 3, 6), helper.convergents(0), helper.best(0, 5, 7), helper.div(0, 8, 1),
        helper.read(0, 0, 10, "x"), helper.read(0, 0, 10, [256]), helper.write(2, 5, 10), helper.records(0, 9),
        helper.beside(0, 9), helper.rank(1, 9), helper.ranked(9, 4, 2), helper.simplest(1, 0, 3), helper.simplest(0, 1, 3),
        helper.numbered(4, "1000"), helper.numbered(4, "01"), helper.number(4), helper.lengths(0, 10), helper.ends(1),
        helper.fewest(1, 4, 60), helper.fewest(0, 4, 60), helper.mediant(0, 1, 5), helper.floor(0),
    ]


def flat(calls):
    return [number for call in calls for number in call]


class Lists(unittest.TestCase):
    def test_numbers_by_hand(self):
        self.assertEqual(answers([0, 2, 0, 10, 3, 50, 47, 52]), [4, 0, 49, 47, 50])
        self.assertEqual(answers([1, 7, 0, 2]), [2, 0, 48])
        self.assertEqual(answers([2, 0, 10, 1, 10, 3, 49, 47, 50]), [4, 0, 48, 46, 53])
        self.assertEqual(answers([3, 0, 10, 1, 48]), [1, 1])
        self.assertEqual(answers([4, 0, 7]), [1, 0])
        self.assertEqual(answers([5, 0, 10, 1, 48, 1, 49]), [1, 1])
        self.assertEqual(answers([5, 0, 10, 1, 49, 2, 45, 49, 4, 0, 0]), [1, 2, 1, 0])
        self.assertEqual(answers([6, 0, 1, 2]), [2, 0, 48])
        self.assertEqual(answers([9, 0, 1, 2]), [1, -5])
        self.assertEqual(answers([10, 0, 0, 3, 1, 3, 0, 10]), [2, 0, 49, 2, 0, 49])
        self.assertEqual(answers([11, 4]), [3, 1, 1, 48])
        self.assertEqual(answers([12, 0, 500, 0]), [2, 0, 48])
        self.assertEqual(answers([0, 0, 0, 10, 0, 4, 0, 0]), [1, -1000, 1, 0])
        self.assertEqual(answers([13, 0, 1]), [3, 1, 1, 48])
        self.assertEqual(answers([14, 7, 1]), [6, 2, 2, 45, 49, 1, 49])
        self.assertEqual(answers([15, 0, 40]), [1, 1])
        self.assertEqual(answers([16, 2, 1, 3, 24, 3]), [4, 0, 49, 47, 50, 2, 0, 48])
        self.assertEqual(answers([17, 0, 1, 2]), [2, 0, 48])
        self.assertEqual(answers([18, 5, 1, 50, 19, 5]), [4, 0, 49, 47, 50, 2, 0, 50])
        self.assertEqual(answers([18, 5, 0, 19, 5]), [1, -4, 1, -6])
        self.assertEqual(answers([20, 0, 2]), [2, 0, 0])
        self.assertEqual(answers([21, 0]), [36, 0] + list(range(2, 37)))
        self.assertEqual(answers([22, 0, 0, 1]), [1, 0])
        self.assertEqual(answers([16, 3, 3, 0, 22, 0, 2, 6]), [4, 0, 50, 47, 51, 3, 2, 2, 6])
        self.assertEqual(answers([23, 0, 1, 2]), [2, 0, 48])
        self.assertEqual(answers([24, 0]), [2, 0, 48])

    def test_it_gives_back_a_list_of_whole_numbers(self):
        told = answers(flat(mixed_calls()))
        self.assertIs(type(told), list)
        for number in told:
            self.assertIs(type(number), int)

    def test_what_is_handed_in_stays(self):
        calls = flat(mixed_calls())
        before = copy.deepcopy(calls)
        answers(calls)
        self.assertEqual(calls, before)

    def test_it_is_never_changed_for_a_while_either(self):
        class Watched(list):
            def refuse(self, *rest):
                raise AssertionError("what is handed in was changed")

            __setitem__ = __delitem__ = __iadd__ = __imul__ = append = extend = insert = pop = refuse
            remove = clear = sort = reverse = refuse

        calls = flat(mixed_calls())
        self.assertEqual(answers(Watched(calls)), answers(calls))

    def test_the_same_twice(self):
        calls = flat(mixed_calls())
        first = answers(calls)
        answers(flat([helper.read(place, 0, 10, "99/7") for place in range(8)]))
        self.assertEqual(answers(calls), first)
        self.assertEqual(answers(list(calls)), first)

    def test_what_is_given_back_is_new_each_time(self):
        first = answers([1, 0, 0, 10])
        first.append(5)
        self.assertEqual(answers([1, 0, 0, 10]), [2, 0, 48])

    def test_importing_and_answering_print_nothing(self):
        done = subprocess.run(
            [sys.executable, "-c", "import fractionforms.desk as desk; desk.answers([1, 0, 0, 10])"],
            cwd=TOP, capture_output=True, check=True,
        )
        self.assertEqual((done.stdout, done.stderr), (b"", b""))


class LongLists(unittest.TestCase):
    def test_four_hundred_calls(self):
        told = helper.ask(*[helper.write(0, 0, 10)] * 400)
        self.assertEqual(told, [helper.done("0")] * 400)
        told = helper.ask(helper.power(0, 0, 1), *[helper.add(0, 1, 0)] * 399)
        self.assertEqual(told, [helper.done("1")] + [helper.done(str(place)) for place in range(1, 400)])

    def test_four_hundred_calls_of_great_numbers(self):
        lower = "9" * 299 + "8"
        kept = helper.read(0, 0, 10, NINES + "/" + lower)
        third = helper.read(1, 0, 10, "8" * 300 + "/" + "7" * 299 + "6")
        for call in (helper.add(0, 1, 2), helper.mul(0, 1, 2), helper.power(0, 40, 2), helper.compare(0, 1),
                     helper.best(0, 500, 3), helper.best(1, 500, 3), helper.write(1, 2, 10), helper.write(1, 4, 10),
                     helper.write(1, 1, 2), helper.write(1, 1, 36), helper.write(1, 5, 10), helper.write(1, 6, 10),
                     helper.write(1, 7, 10), helper.write(1, 8, 10)):
            told = helper.ask(kept, third, *[call] * 398)
            self.assertEqual(told[2:], [told[2]] * 398)

    def check_patience(self, values, call, many):
        """So many calls of one kind behind what they need, each answered alike, in time."""
        start = time.monotonic()
        told = helper.ask(*helper.keeping(*values), *[call] * many)
        self.assertLess(time.monotonic() - start, PATIENCE, call)
        self.assertEqual(told[:len(values)], [helper.done(helper.plain(value)) for value in values])
        self.assertEqual(told[len(values):], [told[-1]] * many)
        return told[-1]

    def test_four_hundred_calls_that_look_for_what_is_near(self):
        great = 10 ** 300 - 1
        first, second = 1, 1
        while first + second < great:
            first, second = second, first + second
        steep = Fraction(first, second)
        nearly = Fraction(second - first, first)
        self.assertEqual(self.check_patience([steep], helper.simplest(0, 0, 1), 399), helper.done(helper.plain(steep)))
        simplest = self.check_patience(sorted([steep, nearly]), helper.simplest(0, 1, 2), 398)
        self.assertEqual(simplest, helper.done(helper.plain(nearly)))
        long_one = Fraction(10 ** 20 - 1, 10 ** 20 - 3)
        self.check_patience([long_one], helper.records(0, 500), 40)
        self.check_patience([Fraction(6765, 10946)], helper.records(0, 500), 40)
        self.check_patience([long_one], helper.beside(0, 500), 399)
        self.assertEqual(self.check_patience([Fraction(great - 1, great)], helper.rank(0, 40), 399), [490])
        self.assertEqual(self.check_patience([], helper.ranked(40, 490, 0), 400), helper.done("1"))
        self.check_patience([steep, Fraction(1, great)], helper.mediant(0, 1, 2), 398)
        self.check_patience([Fraction(-great, 2)], helper.floor(0), 399)

    def test_four_hundred_calls_that_number(self):
        great = 10 ** 300 - 1
        many = helper.MOST_NUMBERS // len(helper.numbered(0, NINES))
        self.check_patience([], helper.numbered(0, NINES), many)
        self.check_patience([], helper.numbered(0, "9" * 37), 400)
        for value, refused in ((901, False), (Fraction(1, 901), False), (Fraction(great, great - 1), True), (great, True)):
            self.assertEqual(self.check_patience([value], helper.number(0), 399) == [-8], refused)

    def test_four_hundred_expansions(self):
        great = 10 ** 300 - 1
        for below in (great, great - 1, 2 ** 996, 3 ** 628, 30 ** 203):
            for base in (2, 7, 10, 30, 36):
                self.check_patience([Fraction(1, below)], helper.lengths(0, base), 399)
            self.check_patience([Fraction(1, below)], helper.ends(0), 399)

    def test_four_hundred_lists_of_parts(self):
        great = 10 ** 300 - 1
        for value in (Fraction(36, 427), Fraction(5, 59), Fraction(great // 12, great - 1), Fraction(great - 1, great)):
            self.assertEqual(self.check_patience([value], helper.fewest(0, 4, 60), 399), [-7])

    def test_sixteen_thousand_numbers(self):
        text = NINES + "/" + NINES
        many = helper.MOST_NUMBERS // len(helper.read(0, 0, 10, text))
        told = helper.ask(*[helper.read(0, 0, 10, text)] * many)
        self.assertEqual(told, [helper.done("1")] * many)


class LongTexts(unittest.TestCase):
    def test_two_thousand_bytes_of_every_form(self):
        ones = ",".join(["1"] * 999)
        for form, base, text in (
            (2, 10, "10;" + "1," * 998 + "2"), (2, 10, "10;" + ones), (4, 10, "0" + "+1/9" * 499 + "+1/"),
            (4, 10, "0+1/199" + "+1/2" * 498 + "9"), (5, 10, "r1l1" * 500), (6, 10, "10:" + ones), (7, 10, "10:" + ones),
            (8, 10, "10:" + ones), (7, 10, "10:" + ones.replace("1", "9")), (8, 10, "10:" + ones.replace("1", "9")),
            (6, 10, "10:" + ones.replace("1", "0")),
        ):
            with self.subTest(form=form, text=text[:20]):
                self.assertEqual(len(text), 2000)
                told = helper.ask(helper.read(0, form, base, text), helper.canonical(form, base, text),
                                  helper.within(form, base, text, text))
                fault = helper.fault_of(form, base, text)
                if fault is not None:
                    self.assertEqual(told, [[-1000 - fault]] * 3)
                    continue
                value = helper.value_of(form, base, text)
                if not helper.is_small(value):
                    self.assertEqual(told, [[-8]] * 3)
                    continue
                written = helper.text_of(form, base, value) == text
                self.assertEqual(told, [helper.done(helper.plain(value)), [int(written)], [0] if written else [-7]])

    def test_two_thousand_bytes_with_a_fault(self):
        for form in helper.FORMS:
            for text in ("1" * 2000, "-" * 2000, "\x00" * 2000, "0" * 2000, "r" * 2000, "(" * 2000):
                fault = helper.fault_of(form, 36, text)
                told = helper.ask(helper.read(0, form, 36, text), helper.within(form, 36, text, text))
                self.assertEqual(told, [[-1000 - fault]] * 2)
            text = helper.text_of(form, 10, 2)
            told = helper.ask(helper.read(0, form, 10, text + "!" * (2000 - len(text))))
            self.assertEqual(told, [[-1000 - len(text)]])

    def test_a_fault_at_the_very_end(self):
        for form, text in ((2, "1;" + "1," * 999), (5, "r1l1" * 499 + "r1l"), (7, "0:" + "1," * 999), (6, "0:" + "0," * 999)):
            self.assertEqual(helper.ask(helper.canonical(form, 10, text)), [[-1000 - len(text)]])

    def test_deep_continued_fraction_of_great_numbers(self):
        text = ";".join(["1", ",".join([NINES] * 6)])
        told = helper.ask(helper.read(0, 2, 10, text), helper.read(0, 5, 10, "r" + NINES + "l" + NINES + "r1"))
        self.assertEqual(told, [[-8], [-8]])


if __name__ == "__main__":
    unittest.main()
