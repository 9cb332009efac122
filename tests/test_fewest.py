"""The rank, the fewest boards of a heap, and one board of a told width."""

import random
import unittest
from fractions import Fraction
from itertools import product

from boardglue.boards import is_heap
from boardglue.fewest import fewest, one_board, rank
from boardglue.plans import walked
from samples import (
    LONG, NO_TURNS, ROOTS, end_by_model, near_misses, places, sign, some_heaps, some_plan, times_fraction,
)

ONE = (1, 0, 1)
TWO = (2, 0, 1)
ROOT = (0, 1, 1)
# Boards by root 2 and by every greater one, among them sides without a first and without a second part.
BOARDS = [
    (ONE, ONE), (ONE, ROOT), (ROOT, ONE), (ROOT, ROOT), ((1, 1, 2), (3, 0, 4)), ((-1, 1, 1), (5, 2, 6)),
    ((-1, 1, 3), (-4, 3, 7)), ((0, 3, 5), (-1, 1, 1)), ((7, 0, 3), (0, 2, 9)), ((1, 3, 10), (2, 1, 1)),
]


def rank_by_fractions(heap):
    a, b, c, e = places(heap)
    return 1 if a * e == b * c else 2


def heaps_of_one_board(d, chance):
    """Heaps that one board was made into, and that board."""
    for board in BOARDS:
        yield ([board], board)
        for many in (1, 4, 12):
            yield (walked(d, [board], some_plan(d, [board], chance, many, NO_TURNS)), board)


class Checks(unittest.TestCase):
    def assert_leads(self, d, heap, plan, end):
        self.assertIs(type(plan), list)
        self.assertNotIn("turn", [deed[0] for deed in plan])
        self.assertEqual(walked(d, heap, plan), end)
        self.assertEqual(end_by_model(heap, plan), end)

    def assert_fewest(self, d, heap, many):
        before = list(heap)
        told = fewest(d, heap)
        self.assertEqual((type(told), len(told)), (tuple, 2))
        self.assertTrue(is_heap(d, told[1]))
        self.assertEqual((rank(heap), rank(told[1]), len(told[1])), (many, many, many))
        self.assert_leads(d, heap, told[0], told[1])
        self.assertEqual(heap, before)

    def assert_one(self, d, heap, board):
        before = list(heap)
        told = one_board(d, heap, board[0])
        self.assertEqual((type(told), len(told)), (tuple, 2))
        self.assertEqual(told[1], board)
        self.assert_leads(d, heap, told[0], [board])
        self.assertEqual(heap, before)

    def assert_none(self, d, heap, width):
        before = list(heap)
        self.assertIsNone(one_board(d, heap, width))
        self.assertEqual(heap, before)


class Rank(Checks):
    def test_by_hand(self):
        for heap, many in [
            ([(ONE, ONE)], 1),
            ([(ROOT, ROOT)], 1),
            ([(ONE, ROOT)], 1),
            ([(ONE, ONE), (ROOT, ROOT)], 2),
            ([(ONE, ROOT), (ROOT, ONE)], 2),
            ([(ONE, ONE), (ROOT, ONE)], 1),
            ([(ONE, ONE), (ONE, ROOT)], 1),
            ([(ONE, ONE), (ONE, ROOT), (ROOT, ONE)], 2),
            ([(ONE, ONE), (ONE, ROOT), (ROOT, ONE), (ROOT, ROOT)], 1),
            ([(TWO, TWO), (ONE, ROOT), (ROOT, ONE), (ROOT, (0, 1, 4))], 1),
            ([(TWO, TWO), (ONE, ROOT), (ROOT, ONE), (ROOT, (0, 1, 5))], 2),
        ]:
            told = rank(heap)
            self.assertIs(type(told), int)
            self.assertEqual(told, many, heap)

    def test_by_fractions(self):
        chance = random.Random(21)
        seen = {1: 0, 2: 0}
        for tries in range(2000):
            heap = [(chance.choice(BOARDS)[0], chance.choice(BOARDS)[1]) for many in range(chance.randrange(1, 4))]
            self.assertEqual(rank(heap), rank_by_fractions(heap), heap)
            seen[rank(heap)] += 1
        self.assertGreater(min(seen.values()), 300)

    def test_very_little_more_than_one(self):
        heap = [((LONG, 1, 1), (1, LONG, 1))]
        self.assertEqual(rank(heap), 1)
        self.assertEqual(rank(heap + [(ONE, (1, 0, LONG))]), 2)
        self.assertEqual(rank(heap + [((LONG, 1, LONG), (1, LONG, 7))]), 1)


class Fewest(Checks):
    def test_one_board_cut_up(self):
        chance = random.Random(22)
        for d in (2, 3, 46, 99):
            for heap, board in heaps_of_one_board(d, chance):
                self.assert_fewest(d, heap, 1)

    def test_two_boards_cut_up(self):
        chance = random.Random(23)
        for d, one, other in product((2, 61), BOARDS, BOARDS):
            heap = [one, other]
            many = rank_by_fractions(heap)
            self.assert_fewest(d, heap, many)
            self.assert_fewest(d, walked(d, heap, some_plan(d, heap, chance, 6, NO_TURNS)), many)

    def test_many_boards(self):
        for d, heap in product((2, 7, 99), some_heaps()):
            self.assert_fewest(d, heap, rank_by_fractions(heap))

    def test_all_roots(self):
        chance = random.Random(24)
        for d in ROOTS:
            heap = [chance.choice(BOARDS)]
            self.assert_fewest(d, walked(d, heap, some_plan(d, heap, chance, 9, NO_TURNS)), 1)
            self.assert_fewest(d, BOARDS, 2)

    def test_boards_alike(self):
        for board in BOARDS:
            for many in (2, 7, 60):
                self.assert_fewest(2, [board] * many, 1)

    def test_unlike_boards_of_one_height_or_one_width(self):
        sides = sorted({side for board in BOARDS for side in board})
        for side in sides:
            self.assert_fewest(2, [(width, side) for width in sides], 1)
            self.assert_fewest(2, [(side, height) for height in sides], 1)

    def test_great_numbers(self):
        for d in (2, 94, 99):
            misses = near_misses(d, 390)[-2:]
            thin = [one for p, q in misses for one in ((p, -q, 1), (-p, q, 3)) if sign(d, one) > 0]
            self.assert_fewest(d, [(one, (LONG, 0, 7)) for one in thin], 1)
            self.assert_fewest(d, [((LONG, 1, 3), one) for one in thin + [ONE]], 1)
            self.assert_fewest(d, [(thin[0], ONE), (ONE, thin[1]), ((LONG, 1, LONG + 2), ROOT)], 2)

    def test_what_is_told_is_the_asker_s_own(self):
        for heap in ([(ONE, TWO)], [(ONE, ONE), (ROOT, ROOT)], [(ONE, ONE), (TWO, ONE)], BOARDS):
            plan, made = fewest(2, heap)
            before = (list(plan), list(made))
            given = list(heap)
            plan.append("more")
            made.append("more")
            self.assertEqual(heap, given)
            self.assertEqual(fewest(2, heap), before)


class OneBoard(Checks):
    def test_by_hand(self):
        heap = [(ONE, ONE), (TWO, ONE)]
        self.assert_one(2, heap, ((3, 0, 1), ONE))
        self.assert_one(2, heap, (ONE, (3, 0, 1)))
        self.assert_one(2, heap, ((3, 0, 100), (100, 0, 1)))
        self.assert_none(2, heap, ROOT)
        self.assert_none(2, heap, (1, 1, 1))
        self.assert_one(2, [((1, 1, 1), ROOT)], ((2, 2, 3), (0, 3, 2)))
        self.assert_none(2, [((1, 1, 1), ROOT)], ROOT)
        self.assert_none(2, [((1, 1, 1), ROOT)], ONE)
        self.assert_none(2, [((1, 1, 1), ROOT)], (1, 2, 1))
        self.assert_none(2, [((1, 1, 1), ROOT)], (-1, 1, 1))
        self.assert_one(2, [(ROOT, ROOT)], ((0, 1, 3), (0, 3, 1)))
        self.assert_none(2, [(ROOT, ROOT)], ONE)
        self.assert_none(2, [(ROOT, ROOT)], TWO)

    def test_of_one_area_but_unlike(self):
        # 2 by 1 and root 2 by root 2 are of one area.
        self.assert_none(2, [(TWO, ONE)], ROOT)
        self.assert_none(2, [(ROOT, ROOT)], TWO)
        self.assert_none(2, [((-1, 1, 1), (1, 1, 1))], ONE)

    def test_the_board_s_own_width_and_its_fractions(self):
        chance = random.Random(25)
        for d in (2, 13, 99):
            for heap, (width, height) in heaps_of_one_board(d, chance):
                for share in (Fraction(1), Fraction(7, 3), Fraction(1, 12), Fraction(10 ** 30)):
                    board = (times_fraction(width, share), times_fraction(height, 1 / share))
                    self.assert_one(d, heap, board)

    def test_other_widths(self):
        chance = random.Random(26)
        for d in (2, 99):
            for heap, (width, height) in heaps_of_one_board(d, chance):
                for other, more in BOARDS:
                    if other[0] * width[1] != other[1] * width[0]:
                        self.assert_none(d, heap, other)

    def test_no_width_serves_a_heap_of_rank_two(self):
        for d, heap in product((2, 99), some_heaps()[1:] + [BOARDS, [(ONE, ONE), (ROOT, ROOT)]]):
            if rank_by_fractions(heap) == 2:
                for width in [one[0] for one in BOARDS + heap[:3]]:
                    self.assert_none(d, heap, width)

    def test_all_roots(self):
        for d in ROOTS:
            self.assert_one(d, [(ONE, ONE), (ROOT, ONE)], ((1, 1, 5), (5, 0, 1)))
            self.assert_none(d, [(ONE, ONE), (ROOT, ONE)], (1, 2, 5))

    def test_great_numbers(self):
        for d in (2, 94):
            p, q = near_misses(d, 390)[-1]
            thin = (p, -q, 1) if sign(d, (p, -q, 1)) > 0 else (-p, q, 1)
            heap = [(thin, (LONG, 1, 7)), (times_fraction(thin, Fraction(3, LONG)), (LONG, 1, 7))]
            share = Fraction(LONG, LONG + 3) / 11
            height = times_fraction((LONG, 1, 7), (1 + Fraction(3, LONG)) / share)
            self.assert_one(d, heap, (times_fraction(thin, share), height))
            self.assert_none(d, heap, (LONG, 0, 1))
            # As near to a width that serves as can be.
            self.assert_one(d, [((LONG, 1, 7), thin)], ((LONG, 1, 1), times_fraction(thin, Fraction(1, 7))))
            self.assert_none(d, [((LONG, 1, 7), thin)], (LONG + 1, 1, 1))

    def test_what_is_told_is_the_asker_s_own(self):
        heap = [(ONE, ONE), (TWO, ONE)]
        told = one_board(2, heap, (3, 0, 2))
        before = (list(told[0]), told[1])
        told[0].clear()
        self.assertEqual(one_board(2, heap, (3, 0, 2)), before)


if __name__ == "__main__":
    unittest.main()
