"""Texts of fractions, lengths and heaps, and what is read from texts."""

import copy
import unittest
from itertools import product

from boardglue.errors import NoText
from boardglue.notes import read_heap, read_length, shown_fraction, shown_heap, shown_length
from samples import LONG, ROOTS, Prickly, no_lengths, no_wholes, small_lengths, some_heaps, some_lengths

BY_HAND = {
    "0": (0, 0, 1), "1": (1, 0, 1), "-1": (-1, 0, 1), "10": (10, 0, 1), "1/2": (1, 0, 2), "-13/20": (-13, 0, 20),
    "r2": (0, 1, 1), "-r2": (0, -1, 1), "2r2": (0, 2, 1), "-2r2": (0, -2, 1), "1/2r2": (0, 1, 2),
    "-10/3r2": (0, -10, 3), "1+r2": (1, 1, 1), "3-r2": (3, -1, 1), "-3+r2": (-3, 1, 1), "-3-r2": (-3, -1, 1),
    "1/2+1/2r2": (1, 1, 2), "1/2-1/2r2": (1, -1, 2), "-1/3+1/2r2": (-2, 3, 6), "-3/4-5r2": (-3, -20, 4),
    "5/6+7/10r2": (25, 21, 30), "1+10r2": (1, 10, 1), "1/2-r2": (1, -2, 2), "1-1/2r2": (2, -1, 2),
}

NO_LENGTHS = """
    -0 +0 00 01 -01 007 0/1 0/2 -0/1 1/1 2/1 -3/1 1/0 0/0 -1/0 2/4 6/3 10/100 -2/4 1/02 01/2 1/ /2 / 1/2/3 1//2 1/-2
    -1/-2 1/+2 +1 +1/2 --1 -+1 +-1 ++1 1- 1+ - + 1+1 1-1 1+2 1/2+1/3 r R2 r2r2 r2r r02 r3 r22 r12 r+2 r-2 r1 r r20 r2.
    r2/1 r2/2 2r 2r3 2r22 2r1 3r 3+r 3-r3 1+2r3 rr2 r2x 1r2 -1r2 1+1r2 1-1r2 -1+1r2 0r2 -0r2 0+r2 0-r2 0+2r2 -0+r2
    1+0r2 1-0r2 01r2 02r2 1/1r2 2/1r2 2/4r2 1/0r2 -2/4r2 1/02r2 3/3r2 /2r2 1/r2 +r2 +2r2 +1/2r2 --r2 +-r2 -+r2 1+-r2
    1--r2 1++r2 1+-2r2 1-+2r2 1--2r2 -1--r2 r2+1 r2-1 2r2+3 1+r2+r2 1+r2+1 1+1+r2 r2+r2 1+2+3r2 +1+r2 01+r2 1/1+r2
    2/4+r2 1/0+r2 1+02r2 1+2/4r2 1+1/0r2 1+2/1r2 1.0 1.5 .5 1e2 1_0 1,0 0x1 1x1 1; ;1 a A x i 2*r2 (1) (r2) 1+(r2)
    \u00b2 \u0661 \uff11 1\u0661 \u0661/\u0662 \u0661r2 r\u0662 r\u00b2 r\uff12 \u22121 \u22121+r2 1\u2212r2 1\u20442 \u00bd \u221a2 1\u0300 \u4e00
""".split()

NO_LENGTHS_WITH_BLANKS = [
    "", " ", "  ", "\n", "\t", " 1", "1 ", "1\n", "\n1", "1\t", "- 1", "1 /2", "1/ 2", "1 / 2", "1 +r2", "1+ r2", "1 + r2",
    "1 r2", "r 2", " r2", "r2 ", "r2\n", "2 r2", "1\x00", "\x00", "1\u00a0", "\u20031", "1\r", "\ufeff1", "\ud800", "1 1",
]

NO_HEAPS = [
    "", " ", "x", "xx", "1", "r2", "1x", "x1", "1x1x1", "1xx1", "x1x1", "1x1x", "1X1", "1*1", "1\u00d71", "1 x1", "1x 1",
    "1 x 1", " 1x1", "1x1 ", "1x1\n", "1x1;1x1", "1x1 ; 1x1", "1x1;  1x1", "1x1 ;1x1", "1x1; ; 1x1", "1x1;; 1x1",
    "1x1;", "1x1; ", "; 1x1", ";1x1", "; ", ";", "1x1, 1x1", "1x1,1x1", "1x1 1x1", "1x1\n1x1", "1x1;\n1x1", "1x1;\t1x1",
    "1x1;\u00a01x1", "1x1: 1x1", "1x1; 1", "1; 1x1", "1x1; 1x", "1x1; x1", "1x1; 1x1x1", "1x1; 1x1; ", "1x1; 1x1;",
    "0x1", "1x0", "0x0", "-1x1", "1x-1", "-1x-1", "-r2x1", "1x-r2", "1-r2x1", "1x1-r2", "-3+2r2x1", "1x-3+2r2",
    "7-5r2x1", "1x7-5r2", "1x1; 0x1", "1x1; 1x0", "1x1; 1x-1", "-1x1; 1x1", "1x1; 1x1-r2; 1x1", "01x1", "1x01",
    "2/4x1", "1x2/4", "1/1x1", "1r2x1", "1x1r2", "1x0r2", "1x+1", "+1x1", "r3x1", "1xr3", "1x1; 1xr22", "1/0x1", "1x1/0",
    "1x1; 2/2x1", "\u0661x1", "1x\u00b2", "1x1; 1x1\x00", "[1x1]", "None", "axb", "1x1; 1xr", "1x1.0",
]


def other_kinds():
    """Things of any kind but texts."""
    more = [1, 0, -1, (1, 0, 1), [1], ["1"], ("1",), {"1": "1"}, {"1"}, [("1", "1")], bytearray(b"1"), b"1x1", b"", str]
    return more + [thing for thing in no_wholes() + no_lengths() if not isinstance(thing, str)] + [Prickly()]


class Fractions(unittest.TestCase):
    def test_by_hand(self):
        for one, text in (
            ((0, 1), "0"), ((1, 1), "1"), ((-1, 1), "-1"), ((12, 1), "12"), ((1, 2), "1/2"), ((-1, 2), "-1/2"),
            ((-10, 3), "-10/3"), ((7, 100), "7/100"), ((LONG, 3), "1" + "0" * 398 + "7/3"),
        ):
            self.assertEqual(shown_fraction(one), text)

    def test_numbers_around_each_count_of_figures(self):
        for many in list(range(1, 80)) + [400, 639, 640, 641, 4299, 4300, 4301, 9001]:
            nines, noughts = "9" * many, "1" + "0" * many
            self.assertEqual(shown_fraction((10 ** many - 1, 1)), nines)
            self.assertEqual(shown_fraction((-10 ** many, 1)), "-" + noughts)
            self.assertEqual(shown_fraction((1 - 10 ** many, 10 ** many)), "-" + nines + "/" + noughts)


class Lengths(unittest.TestCase):
    def test_by_hand(self):
        for text, one in BY_HAND.items():
            with self.subTest(text):
                self.assertEqual(shown_length(2, one), text)
                self.assertEqual(read_length(2, text), one)

    def test_the_root_handed_in_is_written(self):
        for d in ROOTS:
            for one, text in (((0, 1, 1), f"r{d}"), ((1, -3, 2), f"1/2-3/2r{d}"), ((5, 0, 1), "5")):
                self.assertEqual(shown_length(d, one), text)
                self.assertEqual(read_length(d, text), one)

    def test_another_root_is_refused(self):
        for d, other in product(ROOTS, [0, 1, 4, 100, 222] + ROOTS):
            if d != other:
                for ahead in ("", "-", "2", "1+", "-1/2-3/2"):
                    with self.subTest(d=d, other=other), self.assertRaises(NoText):
                        read_length(d, f"{ahead}r{other}")

    def test_read_to_the_same(self):
        for d in (2, 3, 12, 99):
            for one in small_lengths() + some_lengths():
                text = shown_length(d, one)
                told = read_length(d, text)
                self.assertIs(type(text), str)
                self.assertIs(type(told), tuple)
                self.assertEqual([type(number) for number in told], [int, int, int])
                self.assertEqual(told, one)
                self.assertEqual(shown_length(d, told), text)

    def test_unlike_lengths_have_unlike_texts(self):
        lengths = small_lengths() + some_lengths()
        self.assertEqual(len({shown_length(2, one) for one in lengths}), len(set(lengths)))

    def test_numbers_of_very_many_figures(self):
        for one in ((10 ** 5000, 0, 1), (-1, 10 ** 4400, 1), (7 ** 5200, -1, 10 ** 4400), (0, 10 ** 6000 + 1, 9)):
            text = shown_length(2, one)
            self.assertEqual(read_length(2, text), one)
        self.assertEqual(shown_length(2, (-1, 10 ** 4400, 1)), "-1+1" + "0" * 4400 + "r2")

    def test_no_lengths_are_refused(self):
        for text in NO_LENGTHS + NO_LENGTHS_WITH_BLANKS:
            with self.subTest(text=ascii(text)), self.assertRaises(NoText):
                read_length(2, text)

    def test_each_text_of_few_signs_is_read_or_refused(self):
        known = {shown_length(2, one): one for one in product(range(-25, 26), range(-25, 26), range(1, 3))}
        for many in range(1, 6):
            for signs in product("-+/r012", repeat=many):
                text = "".join(signs)
                try:
                    one = read_length(2, text)
                except NoText:
                    self.assertNotIn(text, known)
                else:
                    self.assertEqual(shown_length(2, one), text)

    def test_a_sign_put_in_is_never_passed_over(self):
        for text, sign in product(BY_HAND, " +-/r0x;\n_.\u0660"):
            for place in range(len(text) + 1):
                other = text[:place] + sign + text[place:]
                try:
                    one = read_length(2, other)
                except NoText:
                    continue
                self.assertEqual(shown_length(2, one), other)

    def test_long_texts_that_are_no_lengths(self):
        for text in ("0" * 20000, "1" * 19999 + "x", "-" * 20000, "r2" * 10000, "1/" * 10000, "1+" * 9999 + "r2"):
            with self.assertRaises(NoText):
                read_length(2, text)

    def test_other_kinds_are_refused(self):
        for thing in other_kinds():
            with self.subTest(kind=thing.__class__), self.assertRaises(NoText):
                read_length(2, thing)


class Heaps(unittest.TestCase):
    def test_by_hand(self):
        for text, heap in (
            ("1x1", [((1, 0, 1), (1, 0, 1))]),
            ("r2x1/2", [((0, 1, 1), (1, 0, 2))]),
            ("-1+r2x3-2r2; 5x5", [((-1, 1, 1), (3, -2, 1)), ((5, 0, 1), (5, 0, 1))]),
            ("1x2; 2x1; 1x2", [((1, 0, 1), (2, 0, 1)), ((2, 0, 1), (1, 0, 1)), ((1, 0, 1), (2, 0, 1))]),
        ):
            with self.subTest(text):
                self.assertEqual(shown_heap(2, heap), text)
                self.assertEqual(read_heap(2, text), heap)

    def test_read_to_the_same(self):
        for d, heap in product((2, 3, 12, 99), some_heaps()):
            before = copy.deepcopy(heap)
            text = shown_heap(d, heap)
            self.assertEqual(heap, before)
            self.assertIs(type(text), str)
            told = read_heap(d, text)
            self.assertIs(type(told), list)
            self.assertEqual(told, heap)
            self.assertEqual(shown_heap(d, told), text)

    def test_sides_above_0_hang_on_the_root(self):
        self.assertEqual(read_heap(3, "-3+2r3x1"), [((-3, 2, 1), (1, 0, 1))])
        with self.assertRaises(NoText):
            read_heap(2, "-3+2r2x1")

    def test_each_told_list_is_a_new_one(self):
        told = read_heap(2, "1x1; 2x2")
        told.clear()
        self.assertEqual(read_heap(2, "1x1; 2x2"), [((1, 0, 1), (1, 0, 1)), ((2, 0, 1), (2, 0, 1))])

    def test_no_heaps_are_refused(self):
        for text in NO_HEAPS:
            with self.subTest(text=ascii(text)), self.assertRaises(NoText):
                read_heap(2, text)

    def test_sides_that_are_no_lengths_are_refused(self):
        for text in NO_LENGTHS + NO_LENGTHS_WITH_BLANKS:
            for whole in (f"{text}x1", f"1x{text}", f"1x1; {text}x1", f"1x{text}; 1x1", f"1x1; 1x{text}"):
                with self.subTest(text=ascii(whole)), self.assertRaises(NoText):
                    read_heap(2, whole)

    def test_other_kinds_are_refused(self):
        for thing in other_kinds() + [some_heaps()[0], ["1x1"], ("1x1",), {"1x1": True}]:
            with self.subTest(kind=thing.__class__), self.assertRaises(NoText):
                read_heap(2, thing)


if __name__ == "__main__":
    unittest.main()
