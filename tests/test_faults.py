"""The place of a text's fault, in every form."""

import unittest

import helper

LONG = "1" + "0" * 300
LONGEST = "9" * 300

# form: (text, place) by hand; base 10 but where the form is 1 and the base is told.
FAULTS = {
    0: (
        ("", 0), ("/", 0), ("x", 0), ("+1", 0), (" 1", 0), ("01", 0), ("00", 0), ("-", 1), ("--1", 1), ("-0", 1),
        ("-01", 1), ("-x", 1), ("-/2", 1), ("1x", 1), ("12 ", 2), ("1-", 1), ("1/", 2), ("1/0", 2), ("1/00", 2),
        ("1/02", 2), ("1/-2", 2), ("1/x", 2), ("1//2", 2), ("1/2/3", 3), ("1/2 ", 3), ("-12/34x", 6), ("1\n", 1),
        (LONG, 0), ("-" + LONG, 1), ("1/" + LONG, 2), (LONGEST + "/" + LONG, 301), (LONGEST + "x", 300),
        ("0" * 301, 0), ("-" + LONGEST + "/" + LONGEST + "/", 602),
    ),
    2: (
        ("", 0), (";", 0), ("-", 1), ("-0", 1), ("-0;1", 1), ("01", 0), ("1;", 2), ("1;0", 2), ("1;x", 2), ("1,2", 1),
        ("1;2,", 4), ("1;2,0", 4), ("1;2,03", 4), ("1;2;3", 3), ("1;2,3x", 5), ("1;,2", 2), ("1;-2", 2), ("1;2,,3", 4),
        ("1;" + LONG, 2), ("1;2," + LONG, 4), (LONG + ";1", 0), ("1;2 ", 3), ("1.5", 1),
    ),
    3: (
        ("", 0), (" ", 0), ("-", 1), ("- 1/2", 1), ("-x", 1), ("--0", 1), ("00", 0), ("-00", 1), ("1 ", 2), ("1  1/2", 2),
        ("1 0/2", 2), ("1 1", 3), ("1 1x", 3), ("1 1/", 4), ("1 1/0", 4), ("1 1/1", 4), ("1 1/02", 4), ("1 01/2", 2),
        ("1 1/2x", 5), ("1/", 2), ("1/0", 2), ("1/1 ", 3), ("1/2 1/2", 3), ("1/2/3", 3), ("1 1/2/3", 5), ("1 -1/2", 2),
        (LONG, 0), ("-" + LONG, 1), ("1 " + LONG + "/2", 2), ("1 1/" + LONG, 4), ("1/" + LONG, 2), ("1x", 1), ("-1 1 ", 4),
    ),
    4: (
        ("", 0), ("+1/2", 0), ("-", 1), ("-0", 1), ("-0+1/2", 1), ("00", 0), ("0+", 2), ("0+2/3", 2), ("0+1", 3),
        ("0+11/2", 3), ("0+1x", 3), ("0+1/", 4), ("0+1/0", 4), ("0+1/1", 4), ("0+1/x", 4), ("0+1/02", 4), ("0+1/2+", 6),
        ("0+1/2+1/1", 8), ("0+1/2-1/3", 5), ("0+1/2 ", 5), ("0+-1/2", 2), ("0++1/2", 2), ("1/2", 1),
        ("0+1/" + LONG, 4), ("0+1/2+1/" + LONG, 8), (LONG + "+1/2", 0),
    ),
    5: (
        ("", 0), ("x", 0), ("1", 0), ("O", 0), ("R1", 0), ("-r1", 0), ("oo", 1), ("or1", 1), ("o1", 1), ("o ", 1),
        ("r", 1), ("l", 1), ("rr", 1), ("rl1", 1), ("r0", 1), ("l0", 1), ("r01", 1), ("r1r1", 2), ("l1l1", 2), ("r1o", 2),
        ("r1x", 2), ("r1l", 3), ("r1l0", 3), ("r1l1l1", 4), ("r1l1r", 5), ("r12l3 ", 5), ("r-1", 1), ("r1,l1", 2),
        ("r" + LONG, 1), ("l" + LONG, 1), ("r1l" + LONG, 3), ("r" + LONGEST + "r1", 301),
    ),
    6: (
        ("", 0), (":", 0), ("-", 1), ("-0", 1), ("-0:1", 1), ("01", 0), ("0:", 2), ("0:x", 2), ("0:00", 2), ("0:01", 2),
        ("0:1,", 4), ("0:1,x", 4), ("0:1:1", 3), ("0:1,02", 4), ("0,1", 1), ("0;1", 1), ("0:-1", 2), ("0:1,1x", 5),
        ("0:,1", 2), ("0:" + LONG, 2), ("0:1," + LONG, 4), (LONG + ":1", 0), ("0:0,0 ", 5),
    ),
    7: (
        ("", 0), (":", 0), ("-", 1), ("-0", 1), ("01", 0), ("0:", 2), ("0:0", 2), ("0:x", 2), ("0:01", 2), ("0:1,", 4),
        ("0:1,0", 4), ("0:1:1", 3), ("0,1", 1), ("0;1", 1), ("0:-1", 2), ("0:1,1x", 5), ("0:,1", 2), ("0:" + LONG, 2),
        ("0:1," + LONG, 4), (LONG + ":1", 0), ("0:2,3 ", 5),
    ),
}
FAULTS[8] = FAULTS[7]

# (base, text, place) of expansions.
EXPANSION_FAULTS = (
    (10, "", 0), (10, "-", 1), (10, ".", 0), (10, ".5", 0), (10, "-.5", 1), (10, "--1", 1), (10, "00", 0), (10, "01", 0),
    (10, "-01", 1), (10, "-00", 1), (10, "01.5", 0), (10, "0.", 2), (10, "12.", 3), (10, "0..5", 2), (10, "0.x", 2),
    (10, "0.a", 2), (10, "0.(", 3), (10, "0.()", 3), (10, "0.(x)", 3), (10, "0.(3", 4), (10, "0.(3x", 4), (10, "0.(3))", 5),
    (10, "0.(3)3", 5), (10, "0.(3)(3)", 5), (10, "0.1(", 4), (10, "0.1()", 4), (10, "0.1)", 3), (10, "0.1(2", 5),
    (10, "0(3)", 1), (10, "0.1.2", 3), (10, "1a", 1), (10, "a", 0), (10, "1/2", 1), (10, "1 ", 1), (10, "0.(-3)", 3),
    (2, "2", 0), (2, "-2", 1), (2, "102", 2), (2, "02", 1), (2, "0.2", 2), (2, "0.12", 3), (2, "0.(2)", 3), (2, "0.(12)", 4),
    (2, "0.1(0", 5), (2, "0.1(02", 5), (3, "0.13", 3), (11, "a", None), (11, "b", 0), (11, "0.ab", 3), (35, "y", None),
    (35, "z", 0), (35, "0.(yz)", 4), (36, "z", None), (36, "Z", 0), (36, "zZ", 1), (36, "0.z(z)", None), (36, "z{", 1),
    (36, "z`", 1), (36, "0z", 0), (36, "00", 0), (36, "0.(z/)", 4), (36, "0.(z:)", 4),
    (10, LONGEST, None), (10, LONG, 0), (10, "-" + LONG, 1), (10, "0." + LONGEST, -8), (10, "0." + LONGEST + "0", 2),
    (10, "0.(" + LONG + ")", 3), (10, "0.1(" + LONG + ")", 4), (10, "0." + LONG + "(1)", 2), (10, "0" * 301, 0),
    (2, "1" * 300, None), (2, "1" * 301, 0), (2, "1" * 300 + "2", 300), (2, "0." + "0" * 300, None),
    (2, "0." + "0" * 301, 2), (2, "0.(" + "0" * 300 + ")", None), (2, "0.(" + "0" * 301 + ")", 3),
    (36, "0." + "z" * 301 + "x", 2), (36, "z" * 301, 0), (2, "1" * 300 + "." + "1" * 300 + "(" + "1" * 301, 602),
)


def every_call(form, base, text):
    """All calls that read a text."""
    good = helper.text_of(form, base, 2)
    return (
        helper.read(0, form, base, text),
        helper.convert(form, base, 0, 10, text),
        helper.canonical(form, base, text),
        helper.within(form, base, text, text),
        helper.within(form, base, text, good),
        helper.within(form, base, good, text),
    )


class Faults(unittest.TestCase):
    def test_by_hand(self):
        for form, cases in FAULTS.items():
            for text, place in cases:
                with self.subTest(form=form, text=text[:40]):
                    told = helper.ask(*every_call(form, 10, text), helper.write(0, 0, 10))
                    self.assertEqual(told, [[-1000 - place]] * 6 + [helper.done("0")])

    def test_expansions_by_hand(self):
        for base, text, place in EXPANSION_FAULTS:
            with self.subTest(base=base, text=text[:40]):
                told = helper.ask(*every_call(1, base, text))
                if place is None:
                    self.assertEqual(told[0][0], 0)
                elif place == -8:
                    self.assertEqual(told[0], [-8])
                else:
                    self.assertEqual(told, [[-1000 - place]] * 6)

    def test_of_two_texts_the_first_ones(self):
        for form in helper.FORMS:
            for first, second in (("", "!"), ("!", ""), ("\x00\x00", "")):
                self.assertEqual(helper.ask(helper.within(form, 10, first, second)), [[-1000]])
            written = helper.text_of(form, 10, 3)
            place = len(written)
            told = helper.ask(
                helper.within(form, 10, written + "!", "!"),
                helper.within(form, 10, "!", written + "!"),
                helper.within(form, 10, written, written + "!!"),
                helper.within(form, 10, written + "!!", written),
            )
            self.assertEqual(told, [[-1000 - place], [-1000], [-1000 - place], [-1000 - place]])

    def test_every_byte_everywhere(self):
        """One byte put into, or in the place of one of, good texts."""
        for form in helper.FORMS:
            base = 13 if form == 1 else 10
            for value in ("7/5", "1/13", "3"):
                good = helper.text_of(form, base, value)
                texts = []
                for place in range(len(good) + 1):
                    for code in range(256):
                        texts.append(good[:place] + chr(code) + good[place:])
                        texts.append(good[:place] + chr(code) + good[place + 1:])
                self.check_against_slow(form, base, texts)

    def test_beginnings_and_ends(self):
        for form in helper.FORMS:
            good = helper.text_of(form, 10, "131/60")
            texts = [good[:place] for place in range(len(good))] + [good[place:] for place in range(len(good))]
            self.check_against_slow(form, 10, texts)

    def test_mixed_up_texts(self):
        chance = helper.chance(3)
        signs = "00112359-/.(); ,+:rlo" + "ax\x00\xff"
        for form in helper.FORMS:
            texts = []
            for _ in range(1500):
                good = helper.text_of(form, 10, chance.choice(["9/7", "27/10", "1/12", "12", "55/34"]))
                cut = chance.randrange(len(good) + 1)
                extra = "".join(chance.choice(signs) for _ in range(chance.randrange(4)))
                texts.append(good[:cut] + extra + good[cut + chance.randrange(3):])
            self.check_against_slow(form, 10, texts)

    def check_against_slow(self, form, base, texts):
        for text, told in zip(texts, helper.ask_each([helper.canonical(form, base, text) for text in texts])):
            fault = helper.fault_of(form, base, text)
            if fault is None:
                self.assertGreaterEqual(told[0], -8, (form, text))
            else:
                self.assertEqual(told, [-1000 - fault], (form, text))


if __name__ == "__main__":
    unittest.main()
