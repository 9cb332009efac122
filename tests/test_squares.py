"""Boards cut into squares, heaps made into squares, and why some can't be."""

import random
import unittest
from fractions import Fraction
from itertools import product
from math import gcd

from boardglue.errors import TooMany
from boardglue.plans import walked
from boardglue.squares import squares, squares_of
from boardglue.tables import worth
from samples import (
    LONG, NO_TURNS, ROOTS, as_length, end_by_model, near_misses, pair, places, sign, some_heaps, some_plan,
    times_fraction, turned_about,
)

ONE = (1, 0, 1)
ROOT = (0, 1, 1)
SIDES = [ONE, ROOT, (1, 1, 1), (-1, 1, 1), (3, -1, 1), (2, 0, 3), (0, 5, 4), (-4, 3, 7), (5, 2, 6)]


def fits(d, side):
    return sign(d, side) > 0


def sides_by_hand(share):
    """The sides of the squares of a board share by 1, cut off one by one; of more than 400 those are not told."""
    width, height = share, Fraction(1)
    found = []
    while width and height and len(found) <= 400:
        side = min(width, height)
        found.append(side)
        if width >= height:
            width -= side
        else:
            height -= side
    return found


def squares_by_hand(height, share):
    return [(side, side) for side in [times_fraction(height, part) for part in sides_by_hand(share)]]


def told_by_hand(d, heap):
    """What the document tells of a heap, but the plan and the measure."""
    t, s, u, e = places(heap)
    if s != u:
        return "uneven"
    if t < 0 or t * e < s * s:
        return "below"
    if t == 0:
        return squares_by_hand(ROOT, e)
    v = as_length(Fraction(1), s / t)
    if sign(d, v) < 0:
        v = as_length(Fraction(-1), -s / t)
    c = e - s * s / t
    return squares_by_hand(v, t) + (squares_by_hand(ROOT, c) if c > 0 else [])


def board(side, share):
    return (times_fraction(side, share), side)


class SquaresOf(unittest.TestCase):
    def assert_told(self, d, one, squares_told):
        told = squares_of(d, one)
        self.assertIs(type(told), list)
        self.assertEqual(told, squares_told)

    def test_by_hand(self):
        self.assert_told(2, (ONE, ONE), [(ONE, ONE)])
        self.assert_told(2, (ROOT, ROOT), [(ROOT, ROOT)])
        self.assert_told(2, ((3, 0, 1), ONE), [(ONE, ONE)] * 3)
        self.assert_told(2, (ONE, (3, 0, 1)), [(ONE, ONE)] * 3)
        two, half = (2, 0, 1), (1, 0, 2)
        self.assert_told(2, ((3, 0, 1), two), [(two, two), (ONE, ONE), (ONE, ONE)])
        self.assert_told(2, (two, (3, 0, 1)), [(two, two), (ONE, ONE), (ONE, ONE)])
        self.assert_told(2, ((5, 0, 2), ONE), [(ONE, ONE), (ONE, ONE), (half, half), (half, half)])
        root_two = (0, 2, 1)
        self.assert_told(3, (root_two, (0, 3, 1)), [(root_two, root_two), (ROOT, ROOT), (ROOT, ROOT)])

    def test_fractions_of_many_sides(self):
        shares = [Fraction(top, bottom) for top, bottom in product(range(1, 31), range(1, 31)) if gcd(top, bottom) == 1]
        for d in (2, 99):
            for side, share in product([side for side in SIDES if fits(d, side)], shares[::7]):
                self.assert_told(d, board(side, share), squares_by_hand(side, share))
        for share in shares:
            self.assert_told(2, board((1, 1, 2), share), squares_by_hand((1, 1, 2), share))

    def test_all_roots(self):
        for d in ROOTS:
            self.assert_told(d, board((1, 3, 4), Fraction(17, 5)), squares_by_hand((1, 3, 4), Fraction(17, 5)))

    def test_just_four_hundred(self):
        for share in (
            Fraction(400), Fraction(1, 400), 200 + Fraction(1, 200), 1 / (1 + Fraction(1, 399)), 397 + Fraction(2, 3),
            100 + 1 / (100 + 1 / (100 + Fraction(1, 100))),
        ):
            for side in (ONE, ROOT, (-1, 1, 1)):
                told = squares_of(2, board(side, share))
                self.assertEqual(len(told), 400)
                self.assertEqual(told, squares_by_hand(side, share))

    def test_more_than_four_hundred(self):
        for share in (
            Fraction(401), Fraction(1, 401), 200 + Fraction(1, 201), 201 + Fraction(1, 200), 398 + Fraction(2, 3),
            400 + Fraction(1, 2), 1 / (1 + Fraction(1, 400)), 100 + 1 / (100 + 1 / (100 + Fraction(1, 101))),
            Fraction(LONG), Fraction(1, LONG), Fraction(LONG, LONG - 1), Fraction(LONG, LONG + 1),
        ):
            for side in (ONE, ROOT, (-1, 1, 1)):
                with self.assertRaises(TooMany):
                    squares_of(2, board(side, share))

    def test_great_numbers(self):
        # As many squares as can be of ever lesser sides: the fractions of Fibonacci's numbers.
        one, other = 1, 1
        for step in range(399):
            one, other = other, one + other
        for side in (ONE, (LONG, 1, LONG + 2), (1, LONG, 3)):
            for share in (Fraction(other, one), Fraction(one, other)):
                told = squares_of(2, board(side, share))
                self.assertEqual(len(told), 400)
                self.assertEqual(told, squares_by_hand(side, share))
            with self.assertRaises(TooMany):
                squares_of(2, board(side, Fraction(one + other, other)))

    def test_what_is_told_is_the_asker_s_own(self):
        told = squares_of(2, ((3, 0, 1), ONE))
        told.clear()
        self.assertEqual(squares_of(2, ((3, 0, 1), ONE)), [(ONE, ONE)] * 3)


class Squares(unittest.TestCase):
    def assert_squares(self, d, heap, expected):
        before = list(heap)
        told = squares(d, heap)
        self.assertEqual((type(told), len(told), told[0]), (tuple, 3, "squares"))
        word, plan, made = told
        self.assertEqual((type(plan), type(made)), (list, list))
        self.assertEqual(made, expected)
        self.assertNotIn("turn", [deed[0] for deed in plan])
        self.assertEqual(walked(d, heap, plan), made)
        self.assertEqual(end_by_model(heap, plan), made)
        self.assertTrue(1 <= len(made) <= 400)
        self.assertEqual(heap, before)

    def assert_uneven(self, d, heap):
        before = list(heap)
        self.assertEqual(squares(d, heap), ("uneven",))
        self.assertEqual(heap, before)

    def assert_below(self, d, heap):
        before = list(heap)
        told = squares(d, heap)
        self.assertEqual((type(told), len(told), told[0]), (tuple, 2, "below"))
        measure = told[1]
        self.assertEqual((type(measure), len(measure)), (tuple, 2))
        for top, bottom in measure:
            self.assertEqual((type(top), type(bottom), gcd(top, bottom)), (int, int, 1))
            self.assertGreater(bottom, 0)
        f, g = [Fraction(top, bottom) for top, bottom in measure]
        t, s, u, e = places(heap)
        self.assertLess(t * f * f + (s + u) * f * g + e * g * g, 0)
        self.assertEqual(heap, before)

    def assert_too_many(self, d, heap):
        before = list(heap)
        with self.assertRaises(TooMany):
            squares(d, heap)
        self.assertEqual(heap, before)

    def assert_as_told(self, d, heap):
        expected = told_by_hand(d, heap)
        if expected == "uneven":
            self.assert_uneven(d, heap)
        elif expected == "below":
            self.assert_below(d, heap)
        elif len(expected) > 400:
            self.assert_too_many(d, heap)
        else:
            self.assert_squares(d, heap, expected)
        return expected if type(expected) is str else ("many" if len(expected) > 400 else "squares")

    def test_by_hand(self):
        self.assert_squares(2, [(ONE, ONE)], [(ONE, ONE)])
        self.assert_squares(2, [((3, 0, 1), (2, 0, 1))], [(ONE, ONE)] * 6)
        self.assert_squares(2, [(ROOT, ROOT)], [(ROOT, ROOT)])
        half = (1, 0, 2)
        self.assert_squares(2, [(ONE, half)], [(half, half)] * 2)
        self.assert_squares(2, [((1, 1, 1), (1, 1, 1))], [((1, 1, 1), (1, 1, 1))])
        # The first place is above 0, and v, 1 less root 2, is below 0.
        self.assert_squares(2, [((-1, 1, 1), (-1, 1, 1))], [((-1, 1, 1), (-1, 1, 1))])
        self.assert_squares(2, [(ONE, ONE), (ROOT, ROOT)], [(ONE, ONE), (ROOT, ROOT)])
        self.assert_squares(2, [(ROOT, (0, 2, 1)), (ONE, ONE)], [(ONE, ONE), (ROOT, ROOT), (ROOT, ROOT)])
        self.assert_squares(2, [(ONE, (2, 0, 1)), (ROOT, ROOT)], [(ONE, ONE), (ONE, ONE), (ROOT, ROOT)])

    def test_uneven(self):
        self.assert_uneven(2, [(ONE, ROOT)])
        self.assert_uneven(2, [(ROOT, ONE), (ONE, ONE)])
        self.assert_uneven(3, [((3, -1, 1), (1, 1, 1))])
        self.assert_uneven(2, [(ONE, ONE), (ONE, (0, 1, LONG))])
        # Uneven comes first, be the table less than nought or of too many squares.
        self.assert_uneven(2, [((-1, 1, 1), (1, 1, 1))])
        self.assert_uneven(2, [((401, 0, 1), ONE), (ROOT, ONE)])

    def test_below_by_the_first_place(self):
        heap = [((-1, 1, 1), (1, 1, 1)), ((1, 1, 1), (-1, 1, 1))]
        self.assertLess(places(heap)[0], 0)
        self.assert_below(2, heap)
        self.assert_below(2, heap + [(ONE, ONE), (ROOT, (0, 1000, 1))])

    def test_first_place_nought(self):
        self.assert_below(2, [(ONE, ROOT), (ROOT, ONE)])
        self.assert_below(2, [(ONE, ROOT), (ROOT, ONE), (ROOT, (0, 1000, 1))])
        self.assert_below(2, [(ONE, (0, 1, LONG)), ((0, 1, LONG), ONE), (ROOT, (0, LONG, 1))])
        below = [((-1, 1, 1), (3, -1, 1)), ((3, -1, 1), (-1, 1, 1)), ((6, 0, 1), ONE)]
        self.assertEqual(places(below), [0, 4, 4, -2])
        self.assert_below(2, below)
        less = [((-1, 1, 1), (1, 1, 1)), ((1, 1, 1), (-1, 1, 1)), ((2, 0, 1), ONE)]
        self.assertEqual(places(less), [0, 0, 0, 2])
        self.assert_squares(2, less, [(ROOT, ROOT)] * 2)
        self.assert_squares(2, [(ROOT, (0, 1, 2))], [((0, 1, 2), (0, 1, 2))] * 2)

    def test_second_place_below_nought(self):
        heap = [((3, -1, 1), (3, -1, 1)), ((0, 1, 1), (0, 1, 3))]
        self.assertEqual(places(heap), [9, -3, -3, Fraction(4, 3)])
        self.assert_squares(2, heap, told_by_hand(2, heap))
        heap = [((3, -1, 1), (1, 1, 1)), ((1, 1, 1), (3, -1, 1)), ((0, 2, 1), (0, 1, 2)), ((3, -1, 1), (4, -2, 1)),
                ((4, -2, 1), (3, -1, 1))]
        self.assertEqual(places(heap), [30, -8, -8, 3])
        self.assert_squares(2, heap, told_by_hand(2, heap))
        heap += [((21, -7, 1), ONE), (ONE, (21, -7, 1))]
        self.assertEqual(places(heap), [72, -15, -15, 3])
        self.assert_below(2, heap)

    def test_below_by_little_and_not_below(self):
        # The first place 1, the second one 1, the last one just 1, or a little less or more.
        even = [(ONE, ONE), (ONE, ROOT), (ROOT, ONE)]
        self.assert_squares(2, even + [(ROOT, ROOT)], [((1, 1, 1), (1, 1, 1))])
        for little in (2, 1000, LONG):
            self.assert_below(2, even + [(ROOT, (0, little - 1, little))])
        for little in (2, 400 - 1):
            heap = even + [(ROOT, (0, little + 1, little))]
            side = (0, 1, little)
            self.assert_squares(2, heap, [((1, 1, 1), (1, 1, 1))] + [(side, side)] * little)
        self.assert_too_many(2, even + [(ROOT, (0, 401, 400))])

    def test_just_four_hundred(self):
        for heap in (
            [((400, 0, 1), ONE)],
            [((1, 0, 20), (1, 0, 20))],
            [((0, 1, 20), (0, 1, 20))],
            [((0, 400, 1), ROOT)],
            [((200, 0, 1), ONE), (ROOT, (0, 200, 1))],
            [((399, 0, 1), ONE), (ROOT, ROOT)],
            [((1, 0, 1), ONE), (ROOT, (0, 1, 399))],
            [((400, 400, 1), (1, 1, 1))],
        ):
            self.assert_squares(2, heap, told_by_hand(2, heap))
            self.assertEqual(len(squares(2, heap)[2]), 400)

    def test_more_than_four_hundred(self):
        for heap in (
            [((401, 0, 1), ONE)],
            [((1, 0, 401), ONE)],
            [((0, 401, 1), ROOT)],
            [((200, 0, 1), ONE), (ROOT, (0, 201, 1))],
            [((201, 0, 1), ONE), (ROOT, (0, 200, 1))],
            [((400, 0, 1), ONE), (ROOT, ROOT)],
            [((1, 0, 1), ONE), (ROOT, (0, 1, 400))],
            [((1, 0, 1), ONE), (ROOT, (0, LONG, 7))],
            [((LONG, 0, 3), ONE), (ROOT, ROOT)],
            [((401, 401, 1), (1, 1, 1))],
            [((LONG, 1, 2), (LONG, 1, 2))],
        ):
            self.assert_too_many(2, heap)

    def test_the_order_whichever_board_is_a_square(self):
        shares = [Fraction(1), Fraction(2), Fraction(1, 3), Fraction(5, 3), Fraction(3, 5)]
        for d, one, other in product((2, 99), shares, shares):
            heap = [board(ROOT, other), board(ONE, one)]
            self.assert_squares(d, heap, squares_by_hand(ONE, one) + squares_by_hand(ROOT, other))
            self.assert_squares(d, heap[::-1], squares_by_hand(ONE, one) + squares_by_hand(ROOT, other))

    def test_squares_cut_up(self):
        chance = random.Random(31)
        for d in (2, 3, 61, 99):
            fit = [side for side in SIDES if fits(d, side)]
            for side, many in product(fit, (1, 5)):
                heap = [(side, side)] * many
                self.assert_as_told(d, walked(d, heap, some_plan(d, heap, chance, 6, NO_TURNS)))

    def test_all_roots(self):
        for d in ROOTS:
            heap = [((1, 1, 1), (1, 1, 2)), (ONE, (2, 0, 3))]
            self.assertEqual(self.assert_as_told(d, heap), "squares")
            self.assertEqual(self.assert_as_told(d, [(ONE, ROOT), (ROOT, ONE)]), "below")

    def test_every_heap_is_told_as_the_document_says(self):
        chance = random.Random(32)
        seen = {"squares": 0, "below": 0, "uneven": 0, "many": 0}
        for tries in range(1200):
            d = chance.choice((2, 3, 7))
            fit = [side for side in SIDES if fits(d, side)]
            heap = [(chance.choice(fit), chance.choice(fit)) for many in range(chance.randrange(1, 4))]
            if tries % 3 == 0:
                heap = heap + turned_about(heap)
            elif tries % 3 == 1:
                heap = [(width, width) for width, height in heap]
            seen[self.assert_as_told(d, heap)] += 1
        self.assertGreater(min(seen["squares"], seen["below"], seen["uneven"]), 200)
        self.assertGreater(seen["many"], 0)

    def test_heaps_of_many_boards(self):
        for d, heap in product((2, 99), some_heaps()):
            self.assert_as_told(d, heap)
            self.assert_as_told(d, heap + turned_about(heap))
            self.assert_as_told(d, [(width, width) for width, height in heap])

    def test_great_numbers(self):
        for d in (2, 94, 99):
            p, q = near_misses(d, 380)[-1]
            thin = (p, -q, 1) if sign(d, (p, -q, 1)) > 0 else (-p, q, 1)
            # The first part is made 1, so that the first board has a few squares alone.
            for side in ((LONG, LONG + 5, LONG), times_fraction(thin, Fraction(1, p)), (-1, LONG, 1)):
                for share in (Fraction(1), Fraction(13, 5)):
                    heap = [board(side, share), ((0, 1, LONG), (0, 2 * LONG, 7))]
                    self.assertEqual(self.assert_as_told(d, heap), "squares")
            self.assert_below(d, [(thin, ONE), (ONE, thin), ((LONG, 0, 1), (1, 0, LONG))])

    def test_the_measure_goes_with_worth(self):
        heap = [(ONE, ROOT), (ROOT, ONE)]
        measure = squares(2, heap)[1]
        self.assertLess(worth(measure, measure, (((0, 1), (1, 1)), ((1, 1), (0, 1))))[0], 0)

    def test_what_is_told_is_the_asker_s_own(self):
        heap = [((3, 0, 1), ONE), (ROOT, ROOT)]
        told = squares(2, heap)
        before = ("squares", list(told[1]), list(told[2]))
        told[1].clear()
        told[2].append("more")
        self.assertEqual(squares(2, heap), before)


if __name__ == "__main__":
    unittest.main()
