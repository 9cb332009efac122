"""Bases in their row, counts by them, and the first one that serves."""

import random
import unittest
from itertools import islice, permutations
from math import gcd, lcm

from boardglue.bases import counts, first_base, next_base, serving
from samples import LONG, ROOTS, as_length, near_misses, pair, sign, small_lengths

NUMBERS = (1, 2, 3, 12, 1001, LONG, 2 ** 1300)


def base_of(tops, n):
    return tuple((a, b, n) for a, b in tops)


def tops_in_a_row(d):
    """The tops of the bases, whatever their bottom is, by the document's own words."""
    p, q = (0, 1), (1, 0)
    while True:
        yield (p, q)
        left = (p[0] - q[0], p[1] - q[1])
        if sign(d, left + (1,)) > 0:
            p = left
        else:
            q = (-left[0], -left[1])


def bases_in_a_row(d, n):
    base = first_base(d, n)
    while True:
        yield base
        base = next_base(d, base)


def base_at(d, n, steps):
    return next(islice(bases_in_a_row(d, n), steps, None))


def made_of(base, i, j):
    (a, b), (f, g) = pair(base[0]), pair(base[1])
    return as_length(i * a + j * f, i * b + j * g)


def serves(d, base, lengths):
    return all(min(counts(d, base, one)) >= 0 for one in lengths)


def first_serving(d, lengths):
    """One base after the other is tried."""
    n = lcm(*(one[2] for one in lengths))
    return next(base for base in bases_in_a_row(d, n) if serves(d, base, lengths))


def above_nought(d, lengths):
    return [one for one in lengths if sign(d, one) > 0]


def some_above_nought(d, chance, many, great=30):
    found = []
    while len(found) < many:
        a, b, n = chance.randint(-great, great), chance.randint(-great, great), chance.randint(1, 12)
        shared = gcd(a, b, n)
        found += above_nought(d, [(a // shared, b // shared, n // shared)])
    return found


def nearly_nought(d, figures):
    """Lengths above 0 as near to 0 as whole tops of so many figures can make them, from either side of the root."""
    misses = near_misses(d, figures)[-4:]
    return above_nought(d, [(a, b, n) for p, q in misses for a, b in ((p, -q), (-p, q)) for n in (1, 7) if a % 7])


class Rows(unittest.TestCase):
    def assert_base(self, base, told):
        self.assertIs(type(base), tuple)
        self.assertEqual([type(one) for one in base], [tuple, tuple])
        self.assertEqual([type(number) for one in base for number in one], [int] * 6)
        self.assertEqual(base, told)

    def test_first_bases(self):
        for d in ROOTS:
            for n in NUMBERS:
                self.assert_base(first_base(d, n), ((0, 1, n), (1, 0, n)))

    def test_by_hand(self):
        self.assertEqual(
            list(islice(bases_in_a_row(2, 1), 5)),
            [
                ((0, 1, 1), (1, 0, 1)), ((-1, 1, 1), (1, 0, 1)), ((-1, 1, 1), (2, -1, 1)), ((-1, 1, 1), (3, -2, 1)),
                ((-4, 3, 1), (3, -2, 1)),
            ],
        )
        self.assertEqual(
            list(islice(bases_in_a_row(7, 6), 4)),
            [
                ((0, 1, 6), (1, 0, 6)), ((-1, 1, 6), (1, 0, 6)), ((-2, 1, 6), (1, 0, 6)), ((-2, 1, 6), (3, -1, 6)),
            ],
        )

    def test_next_bases_of_all_roots(self):
        for d in ROOTS:
            for n in (1, 30, LONG):
                with self.subTest(d=d, n=n):
                    for base, tops in islice(zip(bases_in_a_row(d, n), tops_in_a_row(d)), 60):
                        self.assert_base(base, base_of(tops, n))

    def test_hundreds_of_steps(self):
        for d in (2, 3, 61, 94, 99):
            rows = zip(bases_in_a_row(d, 1), bases_in_a_row(d, 10 ** 399), tops_in_a_row(d))
            for short, long, tops in islice(rows, 700):
                self.assert_base(short, base_of(tops, 1))
                self.assert_base(long, base_of(tops, 10 ** 399))
                self.assertTrue(all(sign(d, one) > 0 for one in short))

    def test_the_lesser_stays_and_the_greater_is_what_is_left(self):
        base = ((0, 1, 5), (1, 0, 5))
        for steps in range(200):
            p, q = pair(base[0]), pair(base[1])
            after = next_base(94, base)
            greater = 0 if sign(94, as_length(p[0] - q[0], p[1] - q[1])) > 0 else 1
            self.assertEqual(after[1 - greater], base[1 - greater])
            self.assertEqual(made_of((after[0], after[1]), 1, 1), base[greater])
            base = after


class Counts(unittest.TestCase):
    def assert_counts(self, d, base, one):
        told = counts(d, base, one)
        self.assertIs(type(told), tuple)
        self.assertEqual([type(many) for many in told], [int, int])
        self.assertEqual(made_of(base, *told), one)

    def test_by_hand(self):
        base = first_base(2, 6)
        self.assertEqual(counts(2, base, (1, 1, 2)), (3, 3))
        self.assertEqual(counts(2, base, (-5, 2, 3)), (4, -10))
        self.assertEqual(counts(2, base, (0, 0, 1)), (0, 0))
        self.assertEqual(counts(2, next_base(2, base), (1, 1, 2)), (3, 6))
        self.assertEqual(counts(2, next_base(2, next_base(2, base)), (1, 1, 2)), (9, 6))

    def test_lengths_of_every_sign(self):
        for d in ROOTS:
            for base in islice(bases_in_a_row(d, 12), 0, 40, 13):
                for one in small_lengths()[::5]:
                    self.assert_counts(d, base, one)

    def test_the_bottom_of_the_base_itself_and_great_numbers(self):
        for d in (2, 7, 99):
            for n in (1, 9, LONG, 2 ** 900 * 3 ** 200):
                for base in islice(bases_in_a_row(d, n), 0, 500, 99):
                    for a, b in ((1, 0), (0, 1), (-1, 0), (0, 0), (5, -7), (LONG + 2, -LONG), (-LONG, LONG // 3)):
                        for bottom in (1, n):
                            shared = gcd(a, b, bottom)
                            self.assert_counts(d, base, (a // shared, b // shared, bottom // shared))

    def test_of_the_base_s_own_lengths(self):
        for d in ROOTS:
            for n in (1, 4, LONG):
                for base in islice(bases_in_a_row(d, n), 0, 120, 17):
                    self.assertEqual([counts(d, base, one) for one in base], [(1, 0), (0, 1)])

    def test_made_of_whole_counts_they_are_told_again(self):
        chance = random.Random(3)
        for d in (2, 13, 99):
            for base in islice(bases_in_a_row(d, 90), 0, 300, 23):
                for great in (3, 50, LONG):
                    pair_of_counts = (chance.randint(-great, great), chance.randint(-great, great))
                    self.assertEqual(counts(d, base, made_of(base, *pair_of_counts)), pair_of_counts)

    def test_by_the_next_base_one_of_both_is_the_sum_of_both(self):
        for d in (2, 11, 99):
            base = first_base(d, 12)
            for steps in range(60):
                after = next_base(d, base)
                for one in small_lengths()[::7] + [(LONG, -2 * LONG + 1, 4)]:
                    i, j = counts(d, base, one)
                    # What was taken from the greater one is laid to the lesser one's count.
                    told = (i, i + j) if after[1] == base[1] else (i + j, j)
                    self.assertEqual(counts(d, after, one), told)
                base = after


class Serving(unittest.TestCase):
    def assert_first(self, d, lengths):
        before = list(lengths)
        told = serving(d, lengths)
        self.assertEqual(lengths, before)
        self.assertIs(type(told), tuple)
        self.assertEqual([type(one) for one in told], [tuple, tuple])
        self.assertEqual(told, first_serving(d, lengths))
        return told

    def test_by_hand(self):
        self.assertEqual(serving(2, [(1, 0, 1)]), ((0, 1, 1), (1, 0, 1)))
        self.assertEqual(serving(2, [(0, 3, 1), (5, 2, 1)]), ((0, 1, 1), (1, 0, 1)))
        self.assertEqual(serving(2, [(-1, 1, 1)]), ((-1, 1, 1), (1, 0, 1)))
        self.assertEqual(serving(2, [(2, -1, 1)]), ((-1, 1, 1), (2, -1, 1)))
        self.assertEqual(serving(2, [(2, -1, 4), (1, 0, 6)]), ((-1, 1, 12), (2, -1, 12)))
        self.assertEqual(serving(99, [(10, -1, 1)]), ((-9, 1, 1), (10, -1, 1)))

    def test_of_one_length(self):
        for d in ROOTS:
            for one in above_nought(d, small_lengths())[::4]:
                self.assert_first(d, [one])

    def test_of_many_lengths_in_any_order(self):
        chance = random.Random(8)
        for d in ROOTS:
            lengths = some_above_nought(d, chance, 9)
            told = self.assert_first(d, lengths)
            for again in (lengths[::-1], sorted(lengths), lengths + lengths[:3]):
                self.assertEqual(serving(d, again), told)
        lengths = [(1, 0, 2), (-1, 1, 3), (3, -2, 5), (-7, 5, 4)]
        self.assertEqual(len({serving(2, list(order)) for order in permutations(lengths)}), 1)

    def test_n_is_the_least_number_that_all_bottoms_divide(self):
        for bottoms in ((1, 1), (2, 3), (4, 6), (6, 4), (12, 18, 8), (5, 5, 25), (2 ** 1300, 6 ** 500), (LONG, LONG + 1)):
            lengths = [(1, 0, n) for n in bottoms]
            for order in (lengths, lengths[::-1], [(0, 1, n) for n in bottoms]):
                self.assertEqual([one[2] for one in serving(3, order)], [lcm(*bottoms)] * 2)

    def test_lengths_near_nought(self):
        for d in ROOTS:
            thin = nearly_nought(d, 12)
            self.assertGreater(len(thin), 2)
            for one in thin:
                self.assert_first(d, [one])
            self.assert_first(d, [(1, 0, 2)] + nearly_nought(d, 25) + [(0, 1, 3)])

    def test_great_numbers(self):
        for d in (2, 46, 99):
            self.assert_first(d, [(LONG, -LONG // 20, 1), (-LONG, LONG, LONG + 4), (1, 1, 2 ** 1300), (LONG, LONG + 1, 9)])
        self.assert_first(2, nearly_nought(2, 399))
        self.assert_first(99, nearly_nought(99, 150))

    def test_the_lengths_of_a_base_far_along_the_row(self):
        for d in (2, 5, 31, 99):
            for steps in (0, 1, 2, 3, 100, 101, 137, 350):
                for n in (1, 36, LONG):
                    base = base_at(d, n, steps)
                    # By the base ahead one of them has a count of -1, so none ahead serves both.
                    self.assertEqual(serving(d, list(base)), base)
                    self.assertEqual(serving(d, [base[1], made_of(base, 2, 3), base[0]]), base)

    def test_some_times_the_lengths_of_a_base_far_along_the_row(self):
        chance = random.Random(4)
        for d in (3, 17, 99):
            for steps in (100, 203):
                base = base_at(d, 60, steps)
                lengths = [made_of(base, chance.randint(1, 9), chance.randint(0, 9)) for many in range(6)]
                told = self.assert_first(d, lengths)
                self.assertTrue(serves(d, told, lengths))
                self.assert_first(d, [made_of(base, 5, 0)])
                self.assert_first(d, [made_of(base, 0, 7)])

    def test_all_bases_behind_serve_too(self):
        chance = random.Random(6)
        for d in (2, 23, 98):
            lengths = some_above_nought(d, chance, 8)
            base = serving(d, lengths)
            for steps in range(100):
                self.assertTrue(serves(d, base, lengths))
                base = next_base(d, base)


if __name__ == "__main__":
    unittest.main()
