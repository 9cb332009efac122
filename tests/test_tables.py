"""Fractions reckoned with, tables, areas, measures, and what no cut and no gluing changes."""

import copy
import random
import unittest
from fractions import Fraction
from itertools import permutations, product
from math import gcd

from boardglue.boards import is_heap
from boardglue.plans import walked
from boardglue.tables import (
    area, by, is_less, less, measured, minus, over, plus, table, times, together, worth,
)
from samples import LONG, NO_TURNS, ROOTS, as_length, pair, small_lengths, some_heaps, some_lengths, some_plan

SOME_ROOTS = (2, 3, 8, 61, 99)


def small_fractions():
    return [(top, bottom) for top, bottom in product(range(-6, 7), range(1, 7)) if gcd(top, bottom) == 1]


def long_fractions():
    return [
        (0, 1), (1, 1), (-1, 1), (2, 3), (-3, 2), (LONG, 1), (-LONG, 1), (1, LONG), (-1, LONG), (LONG, LONG + 1),
        (-LONG, LONG + 1), (LONG + 1, LONG), (10 ** 399, 3 ** 800), (3 ** 800, 10 ** 399), (-1, 6 ** 500), (5, 2 ** 1300),
    ]


def fraction_pairs():
    return list(product(small_fractions(), repeat=2)) + list(product(long_fractions(), repeat=2))


def measures():
    numbers = [(0, 1), (1, 1), (-1, 1), (2, 3), (-5, 4)]
    return list(product(numbers, repeat=2)) + [((LONG, 7), (-1, LONG)), ((-LONG, LONG + 1), (0, 1))]


def value(one):
    return Fraction(one[0], one[1])


def values(one):
    return [[value(place) for place in row] for row in one]


def as_fraction(number):
    return (number.numerator, number.denominator)


def as_table(rows):
    return tuple(tuple(as_fraction(Fraction(place)) for place in row) for row in rows)


def sums(heap):
    """The places of the heap's table, by Python's own fractions."""
    found = [[Fraction(0), Fraction(0)], [Fraction(0), Fraction(0)]]
    for width, height in heap:
        for i, j in product(range(2), repeat=2):
            found[i][j] += pair(width)[i] * pair(height)[j]
    return found


def turned(heap):
    return [(height, width) for width, height in heap]


class Checks(unittest.TestCase):
    def assert_fraction(self, one, number):
        self.assertIs(type(one), tuple)
        self.assertEqual([type(part) for part in one], [int, int])
        self.assertEqual(one, as_fraction(Fraction(number)))

    def assert_table(self, one, rows):
        self.assertIs(type(one), tuple)
        self.assertEqual([type(row) for row in one], [tuple, tuple])
        self.assertEqual([len(row) for row in one], [2, 2])
        for i, j in product(range(2), repeat=2):
            self.assert_fraction(one[i][j], rows[i][j])


class Fractions(Checks):
    def test_by_hand(self):
        self.assertEqual(plus((1, 6), (1, 3)), (1, 2))
        self.assertEqual(plus((1, 2), (-1, 2)), (0, 1))
        self.assertEqual(plus((5, 12), (7, 12)), (1, 1))
        self.assertEqual(plus((3, 10), (-2, 15)), (1, 6))
        self.assertEqual(minus((1, 3), (1, 2)), (-1, 6))
        self.assertEqual(minus((5, 7), (5, 7)), (0, 1))
        self.assertEqual(minus((0, 1), (-5, 7)), (5, 7))
        self.assertEqual(times((2, 3), (3, 2)), (1, 1))
        self.assertEqual(times((-4, 9), (3, 8)), (-1, 6))
        self.assertEqual(times((0, 1), (-5, 7)), (0, 1))
        self.assertEqual(by((1, 2), (-3, 4)), (-2, 3))
        self.assertEqual(by((-2, 1), (-6, 1)), (1, 3))
        self.assertEqual(by((0, 1), (-6, 5)), (0, 1))

    def test_sums_and_differences(self):
        for one, other in fraction_pairs():
            self.assert_fraction(plus(one, other), value(one) + value(other))
            self.assert_fraction(minus(one, other), value(one) - value(other))

    def test_products_and_quotients(self):
        for one, other in fraction_pairs():
            self.assert_fraction(times(one, other), value(one) * value(other))
            if other[0] != 0:
                self.assert_fraction(by(one, other), value(one) / value(other))

    def test_alike_and_opposite_ones(self):
        for top, bottom in small_fractions() + long_fractions():
            one, opposite = (top, bottom), (-top, bottom)
            self.assertEqual(plus(one, opposite), (0, 1))
            self.assertEqual(minus(one, one), (0, 1))
            self.assert_fraction(plus(one, one), 2 * value(one))
            self.assert_fraction(minus(one, opposite), 2 * value(one))
            if top != 0:
                self.assertEqual(by(one, one), (1, 1))
                self.assertEqual(by(one, opposite), (-1, 1))

    def test_order(self):
        self.assertIs(is_less((1, 3), (1, 2)), True)
        self.assertIs(is_less((1, 2), (1, 3)), False)
        self.assertIs(is_less((-1, 2), (-1, 3)), True)
        for one, other in fraction_pairs():
            self.assertIs(is_less(one, other), value(one) < value(other))
            self.assertIs(is_less(other, one), value(other) < value(one))

    def test_none_is_less_than_itself(self):
        for one in small_fractions() + long_fractions():
            self.assertIs(is_less(one, one), False)


class Tables(Checks):
    def test_the_heaps_are_heaps(self):
        for d, heap in product(ROOTS, some_heaps()):
            self.assertTrue(is_heap(d, heap))

    def test_by_hand(self):
        self.assertEqual(table([((1, 0, 1), (1, 0, 1))]), (((1, 1), (0, 1)), ((0, 1), (0, 1))))
        self.assertEqual(table([((1, 0, 1), (0, 1, 1))]), (((0, 1), (1, 1)), ((0, 1), (0, 1))))
        self.assertEqual(table([((0, 1, 1), (1, 0, 1))]), (((0, 1), (0, 1)), ((1, 1), (0, 1))))
        self.assertEqual(table([((0, 1, 1), (0, 1, 1))]), (((0, 1), (0, 1)), ((0, 1), (1, 1))))
        self.assertEqual(table([((2, 3, 4), (-1, 5, 6))]), (((-1, 12), (5, 12)), ((-1, 8), (5, 8))))
        self.assertEqual(
            table([((2, 3, 4), (-1, 5, 6)), ((1, 0, 12), (1, 0, 1)), ((1, 0, 1), (7, 7, 12))]),
            (((7, 12), (1, 1)), ((-1, 8), (5, 8))),
        )

    def test_the_sum_over_all_boards(self):
        for heap in some_heaps():
            self.assert_table(table(heap), sums(heap))

    def test_of_every_board_alone(self):
        for width, height in product(small_lengths()[::4] + some_lengths(), repeat=2):
            self.assert_table(table([(width, height)]), sums([(width, height)]))

    def test_in_any_order(self):
        for heap in some_heaps()[:5]:
            told = table(heap)
            for other in permutations(heap):
                self.assertEqual(table(list(other)), told)
        heap = some_heaps()[5]
        self.assertEqual(table(heap[::-1]), table(heap))

    def test_boards_alike_count_each(self):
        one = ((1, 1, 2), (3, 0, 4))
        self.assert_table(table([one] * 60), [[60 * place for place in row] for row in sums([one])])

    def test_turned_over(self):
        self.assertEqual(over(as_table([[1, 2], [3, 4]])), as_table([[1, 3], [2, 4]]))
        for heap in some_heaps():
            told = over(table(heap))
            self.assert_table(told, sums(turned(heap)))
            self.assertEqual(over(told), table(heap))

    def test_together_and_less_by_hand(self):
        one = as_table([[1, Fraction(1, 2)], [Fraction(-1, 3), 0]])
        other = as_table([[-1, Fraction(1, 6)], [Fraction(1, 2), Fraction(5, 4)]])
        self.assertEqual(together(one, other), as_table([[0, Fraction(2, 3)], [Fraction(1, 6), Fraction(5, 4)]]))
        self.assertEqual(less(one, other), as_table([[2, Fraction(1, 3)], [Fraction(-5, 6), Fraction(-5, 4)]]))
        self.assertEqual(less(one, one), as_table([[0, 0], [0, 0]]))

    def test_both_heaps_in_one(self):
        for one, other in product(some_heaps(), repeat=2):
            both = together(table(one), table(other))
            self.assert_table(both, sums(one + other))
            self.assertEqual(both, table(one + other))
            self.assertEqual(less(both, table(other)), table(one))
            self.assertEqual(less(both, table(one)), table(other))

    def test_what_is_handed_in_stays(self):
        for heap in some_heaps():
            before = copy.deepcopy(heap)
            table(heap)
            self.assertEqual(heap, before)


class Areas(Checks):
    def test_by_hand(self):
        one = as_table([[1, 2], [3, 4]])
        self.assertEqual(area(2, one), (9, 5, 1))
        self.assertEqual(area(99, one), (397, 5, 1))
        self.assertEqual(area(3, as_table([[Fraction(1, 2), 0], [0, Fraction(-1, 6)]])), (0, 0, 1))
        self.assertEqual(area(3, as_table([[0, Fraction(1, 2)], [Fraction(-1, 3), 0]])), (0, 1, 6))
        self.assertEqual(area(5, as_table([[Fraction(1, 4), Fraction(1, 6)], [0, 0]])), (3, 2, 12))

    def test_of_all_places(self):
        numbers = [Fraction(0), Fraction(2, 3), Fraction(-5, 4), Fraction(LONG, LONG + 1)]
        for a, b, c, e in product(numbers, repeat=4):
            told = area(7, as_table([[a, b], [c, e]]))
            self.assertIs(type(told), tuple)
            self.assertEqual(told, as_length(a + 7 * e, b + c))

    def test_is_the_sum_of_width_times_height(self):
        for d, heap in product(SOME_ROOTS, some_heaps()):
            f = g = Fraction(0)
            for width, height in heap:
                (a, b), (h, k) = pair(width), pair(height)
                f, g = f + a * h + d * b * k, g + a * k + b * h
            self.assertEqual(area(d, table(heap)), as_length(f, g))
            self.assertEqual(area(d, over(table(heap))), as_length(f, g))


class Measures(Checks):
    def test_measured_by_hand(self):
        self.assertEqual(measured(((1, 1), (0, 1)), (2, 3, 4)), (1, 2))
        self.assertEqual(measured(((0, 1), (1, 1)), (2, 3, 4)), (3, 4))
        self.assertEqual(measured(((2, 1), (-1, 3)), (2, 3, 4)), (3, 4))
        self.assertEqual(measured(((0, 1), (0, 1)), (2, 3, 4)), (0, 1))

    def test_measured(self):
        for measure, one in product(measures(), small_lengths() + some_lengths()):
            f, g = value(measure[0]), value(measure[1])
            self.assert_fraction(measured(measure, one), f * pair(one)[0] + g * pair(one)[1])

    def test_worth_by_hand(self):
        one = as_table([[1, 2], [3, 4]])
        first, second = ((1, 1), (0, 1)), ((0, 1), (1, 1))
        self.assertEqual(worth(first, first, one), (1, 1))
        self.assertEqual(worth(first, second, one), (2, 1))
        self.assertEqual(worth(second, first, one), (3, 1))
        self.assertEqual(worth(second, second, one), (4, 1))
        self.assertEqual(worth(((1, 2), (-1, 1)), ((3, 1), (1, 3)), one), (-17, 2))

    def test_worth(self):
        for heap in some_heaps():
            one = table(heap)
            places = values(one)
            for first, second in product(measures()[::3], repeat=2):
                wanted = sum(
                    value(first[i]) * places[i][j] * value(second[j]) for i, j in product(range(2), repeat=2)
                )
                self.assert_fraction(worth(first, second, one), wanted)

    def test_a_board_is_worth_its_width_by_the_one_times_its_height_by_the_other(self):
        for width, height in product(some_lengths(), repeat=2):
            for first, second in product(measures()[::5], repeat=2):
                self.assertEqual(
                    worth(first, second, table([(width, height)])),
                    times(measured(first, width), measured(second, height)),
                )


class WhatStays(Checks):
    def assert_worth_the_same(self, d, one, other):
        self.assertEqual(table(one), table(other))
        self.assertEqual(area(d, table(one)), area(d, table(other)))
        for first, second in product(measures()[::4], repeat=2):
            self.assertEqual(worth(first, second, table(one)), worth(first, second, table(other)))

    def test_each_deed_but_the_turning(self):
        heap = [((3, 1, 2), (0, 2, 3)), ((1, 0, 4), (0, 2, 3)), ((3, 1, 2), (1, 0, 7))]
        for deed in (
            ("across", 0, (0, 1, 2)), ("along", 0, (1, 0, 5)), ("beside", 0, 1), ("beside", 1, 0), ("atop", 0, 2),
            ("atop", 2, 0), ("stack", 0, 6), ("spread", 0, 6), ("stack", 1, 1),
        ):
            with self.subTest(deed):
                self.assert_worth_the_same(2, walked(2, heap, [deed]), heap)

    def test_strips_cut_and_glued(self):
        heap = [((3, 1, 2), (0, 2, 3))]
        plan = [("across", 0, (3, 1, 4)), ("atop", 1, 2), ("along", 3, (0, 2, 3)), ("beside", 4, 5)]
        self.assertEqual(walked(2, heap, plan[:2]), [((3, 1, 4), (0, 4, 3))])
        self.assertEqual(walked(2, heap, plan), heap)
        for many in range(5):
            self.assert_worth_the_same(2, walked(2, heap, plan[:many]), heap)

    def test_long_plans(self):
        chance = random.Random(7)
        for d, heap in product((2, 13, 99), some_heaps()):
            plan = some_plan(d, heap, chance, 25, NO_TURNS)
            self.assert_worth_the_same(d, walked(d, heap, plan), heap)

    def test_a_board_turned_changes_the_table(self):
        heap = [((3, 1, 2), (0, 2, 3)), ((1, 0, 4), (0, 2, 3))]
        other = walked(2, heap, [("turn", 0)], True)
        self.assertNotEqual(table(other), table(heap))
        first, second = ((1, 1), (0, 1)), ((0, 1), (1, 1))
        self.assertNotEqual(worth(first, second, table(other)), worth(first, second, table(heap)))
        self.assertEqual(together(table(other), over(table(other))), together(table(heap), over(table(heap))))


if __name__ == "__main__":
    unittest.main()
