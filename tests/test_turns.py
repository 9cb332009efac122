"""Heaps that are made into one another with at most one turning, and those that never are."""

import random
import unittest
from fractions import Fraction
from itertools import product

from boardglue.errors import Grain
from boardglue.plans import walked
from boardglue.turns import like_turned
from samples import (
    DEEDS, LONG, NO_TURNS, ROOTS, end_by_model, near_misses, places, sign, some_heaps, some_plan, turned_about,
)

ONE = (1, 0, 1)
TWO = (2, 0, 1)
ROOT = (0, 1, 1)
# By each place of the sums, boards that add 2 there (and, but on the slant, 0 elsewhere).
ALONE = {(0, 0): (ONE, ONE), (0, 1): (ONE, ROOT), (1, 1): (ROOT, ROOT)}


def sums(heap):
    a, b, c, e = places(heap)
    return {(0, 0): a + a, (0, 1): b + c, (1, 0): c + b, (1, 1): e + e}


class Checks(unittest.TestCase):
    def assert_made(self, d, one, other):
        before = (list(one), list(other))
        told = like_turned(d, one, other)
        self.assertEqual((one, other), before)
        self.assertEqual((type(told), len(told), told[0]), (tuple, 3, "plan"))
        word, plan, ends = told
        self.assertEqual((type(plan), type(ends)), (list, list))
        self.assertEqual([type(place) for place in ends], [int] * len(other))
        self.assertEqual(sorted(ends), list(range(len(other))))
        turnings = [deed[0] for deed in plan].count("turn")
        alike = places(one) == places(other)
        # Without a turning the table stays, so where the tables are unlike there is just one.
        self.assertEqual(turnings, 0 if alike else 1)
        for end in (walked(d, one, plan, not alike), end_by_model(one, plan)):
            self.assertEqual(len(end), len(other))
            self.assertEqual([end[place] for place in ends], other)
        return plan

    def assert_made_both_ways(self, d, one, other):
        self.assert_made(d, one, other)
        self.assert_made(d, other, one)

    def assert_apart(self, d, one, other, place):
        before = (list(one), list(other))
        for told in (like_turned(d, one, other), like_turned(d, other, one)):
            self.assertIs(type(told), tuple)
            self.assertEqual(told, ("apart",) + place)
            self.assertEqual([type(part) for part in told], [str, int, int])
        self.assertEqual((one, other), before)


class Plans(Checks):
    def test_by_hand(self):
        self.assert_made_both_ways(2, [(ROOT, ONE)], [(ONE, ROOT)])
        self.assert_made_both_ways(2, [((1, 1, 1), ONE)], [(ONE, (1, 1, 1))])
        self.assert_made_both_ways(2, [((1, 1, 1), ONE)], [(ONE, ROOT), (ONE, ONE)])
        self.assert_made_both_ways(2, [(ROOT, ONE), (ONE, ROOT)], [((0, 2, 1), ONE)])
        self.assert_made_both_ways(2, [(ROOT, ONE), (ONE, ROOT)], [((0, 1, 3), ONE), (ONE, (0, 5, 3))])

    def test_no_turning_where_the_tables_are_alike(self):
        chance = random.Random(41)
        self.assert_made_both_ways(2, [(TWO, ONE)], [(ONE, TWO)])
        self.assert_made_both_ways(2, [((1, 1, 1), (1, 1, 1))], [(ONE, (1, 1, 1)), (ROOT, ONE), (ROOT, ROOT)])
        self.assert_made_both_ways(2, [(ROOT, ONE), (ONE, ROOT)], [(ONE, ROOT), (ROOT, ONE)])
        for d, heap in product((2, 99), some_heaps()):
            self.assert_made(d, heap, heap)
            self.assert_made_both_ways(d, heap, walked(d, heap, some_plan(d, heap, chance, 5, NO_TURNS)))

    def test_one_turning_where_they_are_not(self):
        heap = [(ROOT, ONE)]
        plan = self.assert_made(2, heap, [(ONE, ROOT)])
        with self.assertRaises(Grain):
            walked(2, heap, plan)

    def test_all_boards_turned(self):
        for d, heap in product((2, 3, 61, 99), some_heaps()):
            self.assert_made_both_ways(d, heap, turned_about(heap))

    def test_some_boards_turned(self):
        chance = random.Random(42)
        for d, heap in product((2, 3, 61, 99), some_heaps()):
            other = [(one[1], one[0]) if chance.random() < 0.5 else one for one in heap]
            chance.shuffle(other)
            self.assert_made_both_ways(d, heap, other)

    def test_heaps_made_of_one_another_with_many_turnings(self):
        chance = random.Random(43)
        for d, heap in product((2, 7, 99), some_heaps()):
            for many in (2, 9, 25):
                other = walked(d, heap, some_plan(d, heap, chance, many, DEEDS), True)
                self.assert_made_both_ways(d, heap, other)

    def test_all_roots(self):
        chance = random.Random(44)
        for d, heap in product(ROOTS, some_heaps()[1:4]):
            other = walked(d, heap, some_plan(d, heap, chance, 8, DEEDS), True)
            self.assert_made_both_ways(d, heap, other)
            self.assert_made_both_ways(d, heap, turned_about(heap))

    def test_gaps_of_all_sizes(self):
        for gap in (Fraction(1, LONG), Fraction(1, 3), Fraction(1), Fraction(999, 1000), Fraction(17, 2), Fraction(LONG)):
            wide = ((0, gap.numerator, gap.denominator), ONE)
            for rest in ([], [(ONE, ONE)], [(ROOT, ROOT), (TWO, (1, 1, 1))]):
                self.assert_made_both_ways(2, rest + [wide], rest + turned_about([wide]))
                self.assert_made_both_ways(99, [wide] + rest, rest + turned_about([wide]))

    def test_the_first_board_may_be_very_thin(self):
        for d in (2, 46):
            p, q = near_misses(d, 120)[-1]
            thin = (p, -q, 10 ** 100) if sign(d, (p, -q, 1)) > 0 else (-p, q, 10 ** 100)
            wide = ((1, 10 ** 200, 1), (10 ** 150, 3, 1))
            for board in ((thin, ONE), (ONE, thin), (thin, thin)):
                self.assert_made_both_ways(d, [board, wide], [board] + turned_about([wide]))

    def test_great_numbers(self):
        for d in (2, 94):
            heap = [((LONG, 3, LONG + 1), (1, LONG, 2)), ((1, 0, LONG), (LONG, 5, 3)), (TWO, (0, 1, LONG + 2))]
            plan = [("across", 0, (1, 0, 2)), ("turn", 3), ("stack", 4, 10 ** 200), ("turn", 6), ("spread", 2, 3 ** 300)]
            self.assert_made_both_ways(d, heap, walked(d, heap, plan, True))

    def test_what_is_told_is_the_asker_s_own(self):
        one, other = some_heaps()[2], turned_about(some_heaps()[2])
        told = like_turned(2, one, other)
        before = (list(told[1]), list(told[2]))
        told[1].reverse()
        told[1].append("more")
        told[2].clear()
        self.assertEqual(like_turned(2, one, other)[1:], before)


class Apart(Checks):
    def test_by_hand(self):
        self.assert_apart(2, [(ONE, ONE)], [(TWO, ONE)], (0, 0))
        self.assert_apart(2, [(ROOT, ROOT)], [(TWO, ONE)], (0, 0))
        self.assert_apart(2, [(ROOT, ONE)], [(ONE, (0, 2, 1))], (0, 1))
        self.assert_apart(2, [(ROOT, ONE)], [(ROOT, ONE), (ROOT, ROOT)], (1, 1))
        self.assert_apart(2, [((1, 1, 1), ONE)], [(ONE, ROOT), (ONE, TWO)], (0, 0))

    def test_whichever_places_are_unlike_the_first_is_told(self):
        for d, heap in product((2, 99), some_heaps()):
            for place, board in ALONE.items():
                later = [more for other, more in ALONE.items() if other > place]
                for rest in ([], later[:1], later):
                    self.assert_apart(d, heap, turned_about(heap) + [board] + rest, place)
                    self.assert_apart(d, heap, turned_about(heap + [board] + rest), place)

    def test_very_little_apart(self):
        for place, (width, height) in ALONE.items():
            thin, thinner = [((width[0], width[1], LONG + more), height) for more in (0, 1)]
            self.assert_apart(2, [(ROOT, ONE), thin], [(ONE, ROOT), thinner], place)

    def test_a_plan_just_where_the_sums_are_alike(self):
        chance = random.Random(45)
        sides = [ONE, TWO, ROOT, (0, 2, 1)]
        seen = {"plan": 0, "apart": 0}
        for tries in range(3000):
            one, other = [[(chance.choice(sides), chance.choice(sides)) for many in range(2)] for heaps in range(2)]
            mine, theirs = sums(one), sums(other)
            unlike = [place for place in sorted(mine) if mine[place] != theirs[place]]
            if unlike:
                self.assert_apart(3, one, other, unlike[0])
            else:
                self.assert_made_both_ways(3, one, other)
            seen["apart" if unlike else "plan"] += 1
        self.assertGreater(min(seen.values()), 60)


if __name__ == "__main__":
    unittest.main()
