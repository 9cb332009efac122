"""Boards and heaps, and what comes near to them."""

import copy
import unittest
from itertools import product
from math import gcd

from boardglue.boards import board, is_heap, is_length
from boardglue.errors import NoBoard
from samples import LONG, ROOTS, Prickly, near_misses, no_lengths, no_wholes


def no_sides():
    """What is no length, and lengths that are not above 0, by root 2."""
    return no_lengths() + [
        (0, 0, 1), (-1, 0, 1), (0, -1, 1), (-1, -1, 3), (1, -1, 1), (-3, 2, 1), (7, -5, 9), (-LONG, 1, 1),
    ]


class Lengths(unittest.TestCase):
    def test_lengths(self):
        for thing in (
            (0, 0, 1), (1, 0, 1), (-1, 0, 1), (0, 1, 1), (0, -7, 2), (2, 0, 3), (2, 4, 3), (2, 3, 4), (6, 10, 15),
            (-5, 3, 10), (LONG, LONG + 1, LONG), (1, 1, LONG),
        ):
            with self.subTest(thing):
                self.assertIs(is_length(thing), True)

    def test_just_those_in_lowest_terms_with_a_third_from_1_on(self):
        for thing in product(range(-6, 7), repeat=3):
            self.assertIs(is_length(thing), thing[2] >= 1 and gcd(*thing) == 1)

    def test_no_lengths(self):
        for thing in no_lengths():
            with self.subTest(kind=thing.__class__):
                self.assertIs(is_length(thing), False)


class Boards(unittest.TestCase):
    def test_both_sides_as_handed_in(self):
        self.assertEqual(board(2, (1, 0, 1), (0, 1, 1)), ((1, 0, 1), (0, 1, 1)))
        self.assertEqual(board(2, (0, 1, 1), (1, 0, 1)), ((0, 1, 1), (1, 0, 1)))
        self.assertEqual(board(5, (1, 1, 2), (-1, 1, 2)), ((1, 1, 2), (-1, 1, 2)))
        self.assertEqual(board(3, (1, 0, LONG), (LONG, 0, 1)), ((1, 0, LONG), (LONG, 0, 1)))
        self.assertIs(type(board(2, (1, 0, 1), (1, 0, 1))), tuple)

    def test_by_the_root_handed_in(self):
        side, one = (-3, 2, 1), (1, 0, 1)
        self.assertEqual(board(3, side, one), (side, one))
        self.assertEqual(board(3, one, side), (one, side))
        for given in ((side, one), (one, side), (side, side)):
            with self.subTest(given), self.assertRaises(NoBoard):
                board(2, *given)

    def test_sides_near_0(self):
        one = (1, 0, 1)
        for d in ROOTS:
            for p, q in near_misses(d, 390)[-2:]:
                above, below = ((-p, q, 9), (p, -q, 9)) if p * p < d * q * q else ((p, -q, 9), (-p, q, 9))
                self.assertEqual(board(d, above, one), (above, one))
                self.assertEqual(board(d, one, above), (one, above))
                for given in ((below, one), (one, below), (below, above), (above, below)):
                    with self.subTest(d=d), self.assertRaises(NoBoard):
                        board(d, *given)

    def test_what_makes_no_board_is_refused(self):
        side = (1, 0, 1)
        for thing in no_sides():
            for given in ((thing, side), (side, thing), (thing, thing), (thing, None), (None, thing)):
                with self.subTest(kind=thing.__class__), self.assertRaises(NoBoard):
                    board(2, *given)

    def test_what_is_refused_stays_as_it_was(self):
        wide, high = [1, 0, 1], [(1, 0, 1)]
        with self.assertRaises(NoBoard):
            board(2, wide, high)
        self.assertEqual((wide, high), ([1, 0, 1], [(1, 0, 1)]))


class Heaps(unittest.TestCase):
    one = ((1, 0, 1), (0, 1, 1))
    other = ((-1, 1, 1), (3, 0, 2))

    def test_heaps(self):
        for thing in ([self.one], [self.one, self.other], [self.other, self.one, self.one], [self.one] * 60):
            self.assertIs(is_heap(2, thing), True)

    def test_by_the_root_handed_in(self):
        thing = [self.one, ((1, 0, 1), (-3, 2, 1))]
        self.assertIs(is_heap(3, thing), True)
        self.assertIs(is_heap(2, thing), False)

    def test_no_lists(self):
        for thing in no_wholes() + [1, 0, (self.one,), self.one, {0: self.one}, {self.one}, {self.one: True}, "heap"]:
            with self.subTest(kind=thing.__class__):
                self.assertIs(is_heap(2, thing), False)

    def test_an_empty_list(self):
        self.assertIs(is_heap(2, []), False)

    def test_lists_of_what_is_no_board(self):
        side = (1, 0, 1)
        bad = [
            [side, side], (side,), (side, side, side), (), [], side, self.one[0], ((side, side),), [[side, side]],
            {0: side, 1: side}, "xx", None, 7, True, Prickly(),
        ]
        bad = bad + [(thing, side) for thing in no_sides()] + [(side, thing) for thing in no_sides()]
        for thing in bad:
            for heap in ([thing], [thing, self.one], [self.one, thing], [self.one, thing, self.other]):
                with self.subTest(kind=thing.__class__, many=len(heap)):
                    self.assertIs(is_heap(2, heap), False)

    def test_a_list_within_itself(self):
        thing = []
        thing.append(thing)
        self.assertIs(is_heap(2, thing), False)

    def test_what_is_handed_in_stays_as_it_was(self):
        for thing in ([self.one, self.other, self.one], [self.one, [(1, 0, 1), (1, 0, 1)]], [[]], []):
            before = copy.deepcopy(thing)
            is_heap(2, thing)
            self.assertEqual(thing, before)


if __name__ == "__main__":
    unittest.main()
