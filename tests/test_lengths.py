"""Lengths, their order, their parts, and fractions."""

import random
import unittest
from fractions import Fraction
from itertools import product
from math import gcd

from boardglue.errors import NoLength
from boardglue.lengths import (
    added, by_parts, common_divisor, floor_of, fraction, is_root, is_whole, length, parted, parts, taken, timed, under,
)
from samples import LONG, ROOTS, as_length, near_misses, no_wholes, pair, sign, small_lengths, some_lengths

FEW_ROOTS = (2, 3, 5, 8, 12, 61, 98, 99)


class Checks(unittest.TestCase):
    def assert_length(self, one):
        self.assertIs(type(one), tuple)
        self.assertEqual([type(number) for number in one], [int, int, int])
        self.assertGreaterEqual(one[2], 1)
        self.assertEqual(gcd(*one), 1)

    def assert_same_length(self, one, f, g):
        self.assert_length(one)
        self.assertEqual(one, as_length(f, g))

    def assert_fraction(self, one):
        self.assertIs(type(one), tuple)
        self.assertEqual([type(number) for number in one], [int, int])
        self.assertGreaterEqual(one[1], 1)
        self.assertEqual(gcd(*one), 1)


class CommonDivisor(unittest.TestCase):
    def assert_told(self, one, other):
        expected = gcd(one, other)
        for pair_told in ((one, other), (other, one), (-one, other), (one, -other)):
            self.assertEqual(common_divisor(*pair_told), expected)

    def test_small_numbers(self):
        for one, other in product(range(-30, 31), range(-30, 31)):
            self.assertEqual(common_divisor(one, other), gcd(one, other))

    def test_great_numbers(self):
        chance = random.Random(5)
        sizes = (1, 60, 64, 65, 1000, 8190, 8191, 8192, 8193, 8260, 9000, 20000)
        for first, second, shared in product(sizes, sizes, (1, 64, 9000)):
            one, other, both = [chance.getrandbits(size) for size in (first, second, shared)]
            self.assert_told(one * both, other * both)

    def test_great_numbers_of_odd_forms(self):
        for size in (8192, 8193, 9001):
            power = 1 << size
            for one in (power, power - 1, power + 1, 3 * power, power * power - 1):
                for other in (one - 1, one + 1, 2 * one, 2 * one + 1, one * one, power, power - 1, 10 ** 3000, 1, 0):
                    self.assert_told(one, other)

    def test_as_many_steps_as_can_be(self):
        one, other = 1, 1
        for step in range(30000):
            one, other = other, one + other
            if step % 2503 == 0:
                self.assert_told(one, other)
                self.assert_told(6 * one, 10 * other)


class WholesAndRoots(unittest.TestCase):
    def test_wholes(self):
        for number in (0, 1, -1, 2, 99, -LONG, LONG, 10 ** 5000):
            self.assertIs(is_whole(number), True)

    def test_no_wholes(self):
        for thing in no_wholes():
            with self.subTest(kind=type(thing)):
                self.assertIs(is_whole(thing), False)

    def test_roots_are_just_the_wholes_from_2_to_99_that_are_no_squares(self):
        squares = (1, 4, 9, 16, 25, 36, 49, 64, 81, 100)
        for number in range(-120, 400):
            with self.subTest(number):
                self.assertIs(is_root(number), 2 <= number <= 99 and number not in squares)

    def test_great_numbers_are_no_roots(self):
        for number in (LONG, -LONG, 10 ** 5000):
            self.assertIs(is_root(number), False)

    def test_no_wholes_are_no_roots(self):
        for thing in no_wholes() + ["2", 2.0, (2,), [2], {2}, {2: 2}]:
            with self.subTest(kind=type(thing)):
                self.assertIs(is_root(thing), False)


class Making(Checks):
    def test_one_two_or_three_numbers(self):
        self.assertEqual(length(5), (5, 0, 1))
        self.assertEqual(length(-5), (-5, 0, 1))
        self.assertEqual(length(0), (0, 0, 1))
        self.assertEqual(length(4, 6), (4, 6, 1))
        self.assertEqual(length(4, 6, 10), (2, 3, 5))
        self.assertEqual(length(n=4, b=6, a=2), (1, 3, 2))

    def test_lowest_terms_over_all_three(self):
        self.assertEqual(length(2, 4, 3), (2, 4, 3))
        self.assertEqual(length(2, 3, 4), (2, 3, 4))
        self.assertEqual(length(6, 10, 15), (6, 10, 15))
        self.assertEqual(length(0, 4, 6), (0, 2, 3))
        self.assertEqual(length(4, 0, 6), (2, 0, 3))
        self.assertEqual(length(-12, 18, 30), (-2, 3, 5))

    def test_a_third_below_0(self):
        self.assertEqual(length(1, 2, -3), (-1, -2, 3))
        self.assertEqual(length(-4, 6, -10), (2, -3, 5))
        self.assertEqual(length(3, 0, -1), (-3, 0, 1))

    def test_nought_has_one_form(self):
        for n in (1, 2, 60, -1, -7, LONG, -LONG):
            self.assertEqual(length(0, 0, n), (0, 0, 1))

    def test_the_value_stays(self):
        for a, b, n in product(range(-9, 10), range(-9, 10), list(range(-9, 0)) + list(range(1, 10))):
            self.assert_same_length(length(a, b, n), Fraction(a, n), Fraction(b, n))

    def test_four_hundred_figures(self):
        self.assertEqual(length(LONG * 6, LONG * -4, LONG * -10), (-3, 2, 5))
        self.assertEqual(length(LONG, LONG + 1, LONG + 2), (LONG, LONG + 1, LONG + 2))
        self.assertEqual(length(10 ** 399, 5 ** 500, 10 ** 398), (10 * 2 ** 398, 5 ** 102, 2 ** 398))

    def test_no_wholes_are_refused_at_every_place(self):
        for thing in no_wholes():
            for given in (
                (thing,), (thing, 1), (1, thing), (thing, thing), (thing, 1, 1), (1, thing, 1), (1, 1, thing),
                (thing, thing, thing), (0, thing, 0), (thing, 0, 0), (0, 0, thing),
            ):
                with self.subTest(kind=type(thing), many=len(given)), self.assertRaises(NoLength):
                    length(*given)

    def test_a_third_of_0_is_refused(self):
        for given in ((0, 0, 0), (1, 0, 0), (0, 1, 0), (-2, 3, 0), (LONG, LONG, 0)):
            with self.subTest(given), self.assertRaises(NoLength):
                length(*given)

    def test_numbers_too_long_to_be_shown_do_not_hide_the_refusal(self):
        with self.assertRaises(NoLength):
            length(10 ** 5000, None)


class Reckoning(Checks):
    def test_added_and_taken_by_hand(self):
        self.assertEqual(added((1, 1, 2), (1, -1, 2)), (1, 0, 1))
        self.assertEqual(added((1, 0, 2), (0, 1, 3)), (3, 2, 6))
        self.assertEqual(added((1, 0, 6), (1, 0, 3)), (1, 0, 2))
        self.assertEqual(taken((1, 0, 2), (0, 1, 3)), (3, -2, 6))
        self.assertEqual(taken((0, 1, 3), (1, 0, 2)), (-3, 2, 6))
        self.assertEqual(taken((5, 3, 4), (5, 3, 4)), (0, 0, 1))
        self.assertEqual(taken((0, 0, 1), (5, -3, 4)), (-5, 3, 4))

    def test_added_and_taken(self):
        for one, other in list(product(small_lengths()[::3], repeat=2)) + list(product(some_lengths(), repeat=2)):
            (f, g), (h, k) = pair(one), pair(other)
            self.assert_same_length(added(one, other), f + h, g + k)
            self.assert_same_length(taken(one, other), f - h, g - k)

    def test_timed_by_hand(self):
        self.assertEqual(timed(2, (0, 1, 1), (0, 1, 1)), (2, 0, 1))
        self.assertEqual(timed(99, (0, 1, 1), (0, 1, 1)), (99, 0, 1))
        self.assertEqual(timed(5, (1, 1, 2), (1, -1, 2)), (-1, 0, 1))
        self.assertEqual(timed(5, (1, 1, 2), (1, 1, 2)), (3, 1, 2))
        self.assertEqual(timed(8, (0, 1, 2), (0, 1, 2)), (2, 0, 1))

    def test_timed(self):
        pairs = list(product(small_lengths()[::7], repeat=2)) + list(product(some_lengths(), repeat=2))
        for d in (2, 3, 12, 99):
            for one, other in pairs:
                (f, g), (h, k) = pair(one), pair(other)
                self.assert_same_length(timed(d, one, other), f * h + d * g * k, f * k + g * h)

    def test_parted_by_hand(self):
        self.assertEqual(parted(2, (1, 0, 1), (0, 1, 1)), (0, 1, 2))
        self.assertEqual(parted(2, (1, 0, 1), (1, 1, 1)), (-1, 1, 1))
        self.assertEqual(parted(2, (1, 0, 1), (1, -1, 1)), (-1, -1, 1))
        self.assertEqual(parted(3, (3, 0, 4), (-3, 0, 8)), (-2, 0, 1))
        self.assertEqual(parted(5, (0, 0, 1), (1, -1, 2)), (0, 0, 1))

    def test_parted_times_the_divisor_is_the_first(self):
        pairs = list(product(small_lengths()[::7], repeat=2)) + list(product(some_lengths(), repeat=2))
        for d in (2, 3, 12, 99):
            for one, other in pairs:
                if other == (0, 0, 1):
                    continue
                told = parted(d, one, other)
                self.assert_length(told)
                (f, g), (h, k) = pair(told), pair(other)
                self.assertEqual((f * h + d * g * k, f * k + g * h), pair(one))

    def test_parted_by_what_is_nearly_0(self):
        for d in FEW_ROOTS:
            for p, q in near_misses(d, 200)[-2:]:
                told = parted(d, (1, 0, 1), (p, -q, 1))
                norm = p * p - d * q * q
                self.assert_same_length(told, Fraction(p, norm), Fraction(q, norm))

    def test_parted_by_nought_is_refused(self):
        for d in FEW_ROOTS:
            for one in some_lengths():
                with self.subTest(d=d, one=one), self.assertRaises(NoLength):
                    parted(d, one, (0, 0, 1))


class Order(Checks):
    def test_by_hand(self):
        self.assertIs(under(2, (1, 0, 1), (0, 1, 1)), True)
        self.assertIs(under(2, (0, 1, 1), (1, 0, 1)), False)
        self.assertIs(under(2, (0, 1, 1), (3, 0, 2)), True)
        self.assertIs(under(2, (0, -1, 1), (-1, 0, 1)), True)
        self.assertIs(under(2, (-3, 0, 2), (0, -1, 1)), True)
        self.assertIs(under(2, (0, 0, 1), (3, -2, 1)), True)
        self.assertIs(under(2, (0, 0, 1), (-3, 2, 1)), False)
        self.assertIs(under(3, (0, 0, 1), (3, -2, 1)), False)

    def test_either_way_about(self):
        pairs = list(product(small_lengths()[::5], repeat=2)) + list(product(some_lengths(), repeat=2))
        for d in (2, 3, 5, 99):
            for one, other in pairs:
                (f, g), (h, k) = pair(one), pair(other)
                way = sign(d, as_length(h - f, k - g))
                self.assertIs(under(d, one, other), way > 0)
                self.assertIs(under(d, other, one), way < 0)

    def test_a_length_is_not_under_itself(self):
        for d in ROOTS:
            for one in some_lengths():
                self.assertIs(under(d, one, one), False)

    def test_lengths_very_near_to_one_another(self):
        for d in ROOTS:
            for p, q in near_misses(d, 390):
                whole, rooted, low = (p, 0, 1), (0, q, 1), p * p < d * q * q
                self.assertIs(under(d, whole, rooted), low)
                self.assertIs(under(d, rooted, whole), not low)
                self.assertIs(under(d, (-p, 0, 1), (0, -q, 1)), not low)
                self.assertIs(under(d, (0, -q, 1), (-p, 0, 1)), low)
                self.assertIs(under(d, (0, 0, 1), (p, -q, 7)), not low)
                self.assertIs(under(d, (0, 0, 1), (-p, q, 7)), low)

    def test_very_near_with_unlike_bottoms(self):
        self.assertIs(under(2, (1, 0, LONG + 2), (1, 0, LONG + 1)), True)
        self.assertIs(under(2, (1, 0, LONG + 1), (1, 0, LONG + 2)), False)
        self.assertIs(under(2, (-1, 0, LONG + 1), (-1, 0, LONG + 2)), True)
        self.assertIs(under(2, (1, 1, LONG + 2), (1, 1, LONG + 1)), True)


class Floors(Checks):
    def assert_floor(self, d, one):
        told = floor_of(d, one)
        self.assertIs(type(told), int)
        a, b, n = one
        self.assertGreaterEqual(sign(d, (a - told * n, b, n)), 0)
        self.assertLess(sign(d, (a - told * n - n, b, n)), 0)

    def test_by_hand(self):
        self.assertEqual(floor_of(2, (0, 1, 1)), 1)
        self.assertEqual(floor_of(2, (0, -1, 1)), -2)
        self.assertEqual(floor_of(2, (0, 1, 2)), 0)
        self.assertEqual(floor_of(2, (0, -1, 2)), -1)
        self.assertEqual(floor_of(5, (1, 1, 2)), 1)
        self.assertEqual(floor_of(5, (1, -1, 2)), -1)
        self.assertEqual(floor_of(3, (7, 0, 2)), 3)
        self.assertEqual(floor_of(3, (-7, 0, 2)), -4)
        self.assertEqual(floor_of(99, (0, 1, 1)), 9)
        self.assertEqual(floor_of(99, (0, -1, 1)), -10)

    def test_wholes_are_their_own_floors(self):
        for number in list(range(-20, 21)) + [LONG, -LONG]:
            self.assertEqual(floor_of(7, (number, 0, 1)), number)

    def test_not_above_and_less_than_one_below(self):
        for d in ROOTS:
            for one in small_lengths()[::5] + some_lengths():
                self.assert_floor(d, one)

    def test_where_the_root_part_comes_very_near_to_a_whole_number(self):
        for d in ROOTS:
            found = near_misses(d, 390)
            for p, q in found[:30] + found[-30:]:
                low = p * p < d * q * q
                self.assertEqual(floor_of(d, (0, q, 1)), p if low else p - 1)
                self.assertEqual(floor_of(d, (0, -q, 1)), -p - 1 if low else -p)
                self.assertEqual(floor_of(d, (-p, q, 1)), 0 if low else -1)
                self.assertEqual(floor_of(d, (p, -q, 1)), -1 if low else 0)
                self.assertEqual(floor_of(d, (10 * LONG - p, q, 10)), LONG if low else LONG - 1)


class Parts(Checks):
    def test_fractions_by_hand(self):
        self.assertEqual(fraction(6, 4), (3, 2))
        self.assertEqual(fraction(-6, 4), (-3, 2))
        self.assertEqual(fraction(6, -4), (-3, 2))
        self.assertEqual(fraction(-6, -4), (3, 2))
        self.assertEqual(fraction(0, 5), (0, 1))
        self.assertEqual(fraction(0, -5), (0, 1))
        self.assertEqual(fraction(LONG * 6, LONG * -9), (-2, 3))
        self.assertEqual(fraction(bottom=-4, top=2), (-1, 2))

    def test_the_bottom_may_be_left_out(self):
        for top in (0, 1, -1, 12, LONG, -LONG):
            self.assertEqual(fraction(top), (top, 1))

    def test_fractions(self):
        for top, bottom in product(range(-20, 21), list(range(-20, 0)) + list(range(1, 21))):
            told = fraction(top, bottom)
            self.assert_fraction(told)
            self.assertEqual(Fraction(*told), Fraction(top, bottom))

    def test_parts_by_hand(self):
        self.assertEqual(parts((0, 0, 1)), ((0, 1), (0, 1)))
        self.assertEqual(parts((2, 3, 4)), ((1, 2), (3, 4)))
        self.assertEqual(parts((-2, 3, 6)), ((-1, 3), (1, 2)))
        self.assertEqual(parts((3, -6, 4)), ((3, 4), (-3, 2)))

    def test_parts_are_fractions_in_lowest_terms(self):
        for one in small_lengths() + some_lengths():
            told = parts(one)
            self.assertIs(type(told), tuple)
            self.assertEqual(len(told), 2)
            for part in told:
                self.assert_fraction(part)
            self.assertEqual((Fraction(*told[0]), Fraction(*told[1])), pair(one))

    def test_by_parts_by_hand(self):
        self.assertEqual(by_parts((0, 1), (0, 1)), (0, 0, 1))
        self.assertEqual(by_parts((-1, 3), (1, 2)), (-2, 3, 6))
        self.assertEqual(by_parts((1, 4), (-1, 6)), (3, -2, 12))
        self.assertEqual(by_parts((0, 1), (5, 6)), (0, 5, 6))
        self.assertEqual(by_parts((5, 6), (0, 1)), (5, 0, 6))

    def test_by_parts_of_the_parts_is_the_length_again(self):
        for one in small_lengths() + some_lengths():
            told = by_parts(*parts(one))
            self.assert_length(told)
            self.assertEqual(told, one)

    def test_parts_by_parts_are_the_fractions_again(self):
        told = [fraction(top, bottom) for top, bottom in product(range(-4, 5), range(1, 7))]
        for f, g in product(told, repeat=2):
            self.assertEqual(parts(by_parts(f, g)), (f, g))


if __name__ == "__main__":
    unittest.main()
