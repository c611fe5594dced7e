"""Promise 1, from the text: what each text is read as, and that of a fraction's texts only one is the written one."""

import itertools
import unittest
from fractions import Fraction

import helper

# (form, base, text, fraction) of texts that may be read but aren't written so.
NOT_WRITTEN = (
    (0, 10, "2/4", "1/2"), (0, 10, "0/7", "0"), (0, 10, "4/2", "2"), (0, 10, "-3/1", "-3"), (0, 10, "-6/4", "-3/2"),
    (1, 10, "-0", "0"), (1, 10, "1.0", "1"), (1, 10, "1.(0)", "1"), (1, 10, "0.(9)", "1"), (1, 10, "-0.(9)", "-1"),
    (1, 10, "0.0(9)", "1/10"), (1, 10, "0.50", "1/2"), (1, 10, "0.(33)", "1/3"), (1, 10, "0.3(3)", "1/3"),
    (1, 10, "-0.0", "0"), (1, 10, "-0.(0)", "0"), (1, 10, "0.1(0)", "1/10"), (1, 10, "0.(3333)", "1/3"),
    (1, 2, "1.(1)", "2"), (1, 2, "0.1(01)", "2/3"), (1, 2, "0.01(0)", "1/4"), (1, 36, "z.(z)", "36"),
    (1, 36, "0.i0", "1/2"), (1, 12, "0.3(b)", "1/3"), (1, 16, "f.f(f)", "16"), (1, 3, "0.1(1)", "1/2"),
    (2, 10, "1;1", "2"), (2, 10, "-1;1", "0"), (2, 10, "0;1,1", "1/2"), (2, 10, "4;2,6,6,1", "415/93"),
    (3, 10, "-0", "0"), (3, 10, "0 1/2", "1/2"), (3, 10, "-0 1/2", "-1/2"), (3, 10, "1 3/2", "5/2"),
    (3, 10, "1 2/4", "3/2"), (3, 10, "-1 2/2", "-2"), (3, 10, "7/2", "7/2"), (3, 10, "-7/2", "-7/2"),
    (3, 10, "0/5", "0"), (3, 10, "-0/5", "0"), (3, 10, "2/4", "1/2"), (3, 10, "3/1", "3"), (3, 10, "-6/3", "-2"),
    (4, 10, "0+1/2+1/2", "1"), (4, 10, "0+1/3+1/2", "5/6"), (4, 10, "0+1/4+1/4", "1/2"), (4, 10, "-1+1/2+1/2", "0"),
    (4, 10, "0+1/3+1/3", "2/3"), (4, 10, "-3+1/2+1/2+1/2", "-3/2"), (4, 10, "0+1/3+1/4", "7/12"),
    (6, 10, "0:0", "0"), (6, 10, "0:2", "1"), (6, 10, "0:1,0", "1/2"), (6, 10, "0:0,3", "1/2"), (6, 10, "-1:1,3", "0"),
    (6, 10, "0:0,0,24", "1"), (6, 10, "2:7,100", "133/6"),
    (7, 10, "0:1", "1"), (7, 10, "0:3,2", "1/2"), (7, 10, "-1:1", "0"), (7, 10, "0:1,1,1", "3"), (7, 10, "0:2,1", "1"),
    (8, 10, "0:1", "1"), (8, 10, "0:1,1", "0"), (8, 10, "0:2,2", "1/4"), (8, 10, "0:1,2", "1/2"), (8, 10, "-1:1,1", "-1"),
    (8, 10, "0:3,2", "1/6"), (8, 10, "0:1,1,1", "1"),
)

# Signs of each form's texts, for trying all short ones.
SIGNS = {0: "-012/", 1: "-01.()", 2: "-012;,", 3: "-012 /", 4: "-0123+/", 5: "o012rl", 6: "-012:,", 7: "-012:,",
         8: "-012:,"}
LENGTHS = {0: 5, 1: 6, 2: 6, 3: 6, 4: 5, 5: 6, 6: 6, 7: 6, 8: 6}


def short_texts(form):
    for length in range(LENGTHS[form] + 1):
        for signs in itertools.product(SIGNS[form], repeat=length):
            yield "".join(signs)


class Reading(unittest.TestCase):
    def test_texts_that_are_not_written_so(self):
        for form, base, text, value in NOT_WRITTEN:
            with self.subTest(form=form, base=base, text=text):
                told = helper.ask(
                    helper.read(7, form, base, text),
                    helper.write(7, 0, 10),
                    helper.canonical(form, base, text),
                    helper.convert(form, base, form, base, text),
                )
                self.assertEqual(told[:3], [helper.done(value), helper.done(value), [0]])
                self.assertEqual(told[3], helper.done(helper.text_of(form, base, Fraction(value))))

    def test_every_road_is_the_written_one(self):
        """No two roads lead to one fraction, so form 5 has no text that's read but not written."""
        seen = {}
        texts = [text for text in short_texts(5) if helper.fault_of(5, 10, text) is None]
        calls = [[helper.read(0, 5, 10, text), helper.canonical(5, 10, text)] for text in texts]
        for text, told in zip(texts, helper.ask_groups(calls)):
            self.assertEqual(told[1], [1], text)
            self.assertNotIn(tuple(told[0]), seen)
            seen[tuple(told[0])] = text
        self.assertGreater(len(seen), 20)

    def test_all_short_texts(self):
        """Each is refused at its fault, or read; and it's the written one just if it's what is written."""
        for form in helper.FORMS:
            base = 2 if form == 1 else 10
            texts = list(short_texts(form))
            groups = [[helper.read(0, form, base, text), helper.canonical(form, base, text)] for text in texts]
            for text, told in zip(texts, helper.ask_groups(groups)):
                fault = helper.fault_of(form, base, text)
                if fault is not None:
                    expected = [[-1000 - fault], [-1000 - fault]]
                else:
                    value = helper.value_of(form, base, text)
                    written = helper.text_of(form, base, value)
                    expected = [helper.done(helper.plain(value)), [1 if written == text else 0]]
                if told != expected:
                    self.fail((form, text, told, expected))

    def test_long_texts(self):
        """Read as reckoned slowly, whether small enough or not."""
        chance = helper.chance(2)
        for form in helper.FORMS:
            for base in (2, 36) if form == 1 else (10,):
                texts = [self.long_text(chance, form, base) for _ in range(60)]
                groups = [[helper.read(0, form, base, text), helper.canonical(form, base, text)] for text in texts]
                for text, told in zip(texts, helper.ask_groups(groups)):
                    value = helper.value_of(form, base, text)
                    if helper.is_small(value):
                        self.assertEqual(told[0], helper.done(helper.plain(value)), (form, text))
                    else:
                        self.assertEqual(told, [[-8], [-8]], (form, text))

    def long_text(self, chance, form, base):
        sign = chance.choice(["", "-"])
        many = chance.choice([1, 3, 12, 40])
        numbers = [str(chance.randint(2, chance.choice([9, 9, 400]))) for _ in range(many)]
        whole = sign + str(chance.randint(1, 10 ** chance.choice([1, 20])))
        if form == 0:
            return whole + "/" + "".join(numbers)
        if form == 1:
            rows = ["".join(chance.choice(helper.DIGITS[:base]) for _ in range(many)) for _ in range(2)]
            return f"{sign}1{rows[0]}.{rows[1]}({rows[0]})"
        if form == 3:
            return f"{whole} {numbers[0]}/{''.join(numbers)}"
        if form == 4:
            return "+1/".join([whole] + numbers)
        if form == 5:
            return "".join(letter + number for letter, number in zip(itertools.cycle("rl"), numbers))
        return whole + (";" if form == 2 else ":") + ",".join(numbers)


class NoTextAtAll(unittest.TestCase):
    """Texts that look written, of fractions that have none: they aren't the written one."""

    def check(self, form, base, text):
        value = helper.value_of(form, base, text)
        self.assertTrue(helper.is_small(value))
        told = helper.ask(
            helper.read(0, form, base, text),
            helper.write(0, form, base),
            helper.canonical(form, base, text),
            helper.within(form, base, text, text),
        )
        self.assertEqual(told, [helper.done(helper.plain(value)), [-8], [0], [-7]])

    def test_factorial_with_more_numbers_than_may_be(self):
        self.check(6, 10, helper.text_of(6, 10, Fraction(1, 151 ** 2)))
        self.check(6, 10, helper.text_of(6, 10, Fraction(5, 307)))

    def test_engel_and_pierce_with_much_below(self):
        for form in (7, 8):
            for value in (Fraction(1, 10001), Fraction(7, 12345), Fraction(-5, 99991)):
                self.check(form, 10, helper.text_of(form, 10, value))

    def test_expansion_that_comes_to_too_many_digits(self):
        self.check(1, 2, "1" * 300 + ".(1)")
        self.check(1, 2, "-" + "1" * 300 + ".1(1)")

    def test_unit_parts_that_would_be_too_long(self):
        self.check(4, 10, "0+1/" + "9" * 150 + "+1/" + "9" * 149 + "8")


if __name__ == "__main__":
    unittest.main()
