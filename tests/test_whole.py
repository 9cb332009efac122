"""What the program promises over the whole: just one of two answers, whatever the heaps, and at its greatest sizes."""

import random
import unittest
from fractions import Fraction
from itertools import product

from boardglue.bases import serving
from boardglue.boards import is_heap
from boardglue.desk import Desk
from boardglue.errors import TooMany
from boardglue.fewest import fewest, one_board, rank
from boardglue.lengths import length
from boardglue.likes import like
from boardglue.normal import normal_heap, normal_plan
from boardglue.notes import shown_heap
from boardglue.plans import back, walked
from boardglue.squares import squares
from boardglue.tables import table, worth
from boardglue.turns import like_turned
from samples import (
    DEEDS, NO_TURNS, ROOTS, places, sign, some_heaps, some_plan, times_fraction, turned_about,
)

SIDES = [
    (1, 0, 1), (2, 0, 1), (1, 0, 2), (0, 1, 1), (0, 2, 1), (0, 1, 3), (1, 1, 1), (2, -1, 1), (-1, 1, 1), (-2, 2, 3), (3, -1, 2),
]


def heaps_by(d, chance, many):
    fit = [side for side in SIDES if sign(d, side) > 0]
    return [
        [(chance.choice(fit), chance.choice(fit)) for boards in range(chance.randrange(1, 4))] for heaps in range(many)
    ]


class Checks(unittest.TestCase):
    def assert_plan(self, d, one, other, told, turning):
        word, plan, ends = told
        end = walked(d, one, plan, turning)
        self.assertEqual(sorted(ends), list(range(len(end))))
        self.assertEqual([end[place] for place in ends], other)

    def assert_like(self, d, one, other):
        told = like(d, one, other)
        mine, theirs = places(one), places(other)
        unlike = [place for place in range(4) if mine[place] != theirs[place]]
        if unlike:
            self.assertEqual(told, ("apart",) + divmod(unlike[0], 2))
        else:
            self.assert_plan(d, one, other, told, False)
        return told[0]

    def assert_like_turned(self, d, one, other):
        told = like_turned(d, one, other)
        mine, theirs = places(one), places(other)
        sums = [(a + a, b + c, c + b, e + e) for a, b, c, e in (mine, theirs)]
        unlike = [place for place in range(4) if sums[0][place] != sums[1][place]]
        if unlike:
            self.assertEqual(told, ("apart",) + divmod(unlike[0], 2))
        else:
            self.assert_plan(d, one, other, told, mine != theirs)
            self.assertLessEqual([deed[0] for deed in told[1]].count("turn"), 1)
        return told[0]

    def assert_fewest(self, d, heap):
        plan, made = fewest(d, heap)
        a, b, c, e = places(heap)
        self.assertEqual(len(made), 1 if a * e == b * c else 2)
        self.assertEqual(len(made), rank(heap))
        self.assertTrue(is_heap(d, made))
        self.assertEqual(walked(d, heap, plan), made)
        if len(made) == 1:
            width = times_fraction(made[0][0], Fraction(2, 3))
            plan, board = one_board(d, heap, width)
            self.assertEqual(board, (width, times_fraction(made[0][1], Fraction(3, 2))))
            self.assertEqual(walked(d, heap, plan), [board])
        else:
            self.assertIsNone(one_board(d, heap, heap[0][0]))
        return len(made)

    def assert_squares(self, d, heap):
        a, b, c, e = places(heap)
        try:
            told = squares(d, heap)
        except TooMany:
            told = ("many",)
        expected = "uneven" if b != c else "below" if a < 0 or e < 0 or a * e < b * c else "squares"
        self.assertIn(told[0], (expected, "many" if expected == "squares" else expected))
        if told[0] == "squares":
            self.assertEqual(walked(d, heap, told[1]), told[2])
            self.assertTrue(all(width == height for width, height in told[2]))
            self.assertLessEqual(len(told[2]), 400)
            self.assertTrue(is_heap(d, told[2]))
        if told[0] == "below":
            self.assertLess(worth(told[1], told[1], table(heap))[0], 0)
        return told[0]


class Promise(Checks):
    def test_of_two_heaps_just_one_is_told(self):
        chance = random.Random(61)
        seen = {}
        for d in (2, 3, 5, 99):
            for one, other in product(heaps_by(d, chance, 24), heaps_by(d, chance, 24)):
                for word in (self.assert_like(d, one, other), "turned " + self.assert_like_turned(d, one, other)):
                    seen[word] = seen.get(word, 0) + 1
        self.assertEqual(sorted(seen), ["apart", "plan", "turned apart", "turned plan"])

    def test_what_cuts_and_gluings_make_is_like(self):
        chance = random.Random(62)
        for d in ROOTS:
            for heap in heaps_by(d, chance, 3):
                other = walked(d, heap, some_plan(d, heap, chance, 8, NO_TURNS))
                self.assertEqual(self.assert_like(d, heap, other), "plan")
                self.assertEqual(self.assert_like(d, other, heap), "plan")
                other = walked(d, heap, some_plan(d, heap, chance, 8, DEEDS), True)
                self.assertEqual(self.assert_like_turned(d, heap, other), "plan")
                self.assertEqual(self.assert_like_turned(d, other, heap), "plan")

    def test_one_board_or_two(self):
        chance = random.Random(63)
        seen = [self.assert_fewest(d, heap) for d in (2, 3, 5, 99) for heap in heaps_by(d, chance, 150)]
        self.assertGreater(min(seen.count(1), seen.count(2)), 60)

    def test_squares(self):
        chance = random.Random(64)
        seen = []
        for d in (2, 3, 5, 99):
            for heap in heaps_by(d, chance, 50):
                seen.append(self.assert_squares(d, heap))
                seen.append(self.assert_squares(d, heap + turned_about(heap)))
                seen.append(self.assert_squares(d, [(width, width) for width, height in heap]))
        self.assertGreater(min([seen.count(word) for word in ("squares", "below", "uneven")]), 60)


class TheProgramsOwn(Checks):
    """What the program tells, of numbers of any size, is handed in again."""

    def test_told_heaps_go_on(self):
        chance = random.Random(65)
        for d, heap in product((2, 99), some_heaps()):
            base = serving(d, [one[0] for one in heap])
            made = [normal_heap(d, heap, base), fewest(d, heap)[1], walked(d, heap, normal_plan(d, heap, base))]
            made.append(walked(d, heap, some_plan(d, heap, chance, 10, NO_TURNS)))
            for one, other in zip(made, made[1:] + [heap]):
                self.assertEqual(self.assert_like(d, one, other), "plan")
                self.assertEqual(self.assert_like_turned(d, one, turned_about(other)), "plan")
                self.assert_fewest(d, one)
                self.assert_squares(d, one)

    def test_told_plans_lead_back(self):
        for d, heap in product((2, 99), some_heaps()):
            for plan in (fewest(d, heap)[0], like(d, heap, heap[::-1])[1], like_turned(d, heap, turned_about(heap))[1]):
                deeds, ends = back(d, heap, plan)
                first = walked(d, walked(d, heap, plan, True), deeds, True)
                self.assertEqual([first[place] for place in ends], heap)


class Greatest(Checks):
    """Heaps of sixty boards, sides of three numbers of four hundred figures."""

    def setUp(self):
        chance = random.Random(66)

        def side():
            return length(*[chance.randrange(10 ** 399, 10 ** 400) for part in range(3)])

        self.heap = [(side(), side()) for many in range(60)]
        self.before = list(self.heap)
        self.height = side()

    def tearDown(self):
        self.assertEqual(self.heap, self.before)

    def test_two_boards(self):
        self.assertEqual(self.assert_fewest(2, self.heap), 2)

    def test_one_board(self):
        self.assertEqual(self.assert_fewest(99, [(width, self.height) for width, height in self.heap]), 1)

    def test_like(self):
        self.assertEqual(self.assert_like(3, self.heap, self.heap[::-1]), "plan")
        self.assertEqual(self.assert_like(3, self.heap, self.heap[1:]), "apart")

    def test_turned(self):
        self.assertEqual(self.assert_like_turned(2, self.heap, self.heap[30:] + turned_about(self.heap[:30])), "plan")

    def test_squares(self):
        self.assertEqual(self.assert_squares(2, self.heap), "uneven")
        self.assertEqual(self.assert_squares(2, self.heap[:30] + turned_about(self.heap[:30])), "below")
        self.assertEqual(self.assert_squares(2, [(width, width) for width, height in self.heap]), "many")

    def test_the_desk_with_sixty_boards(self):
        heap = [((width[0] % 10 ** 100, 1, 3), (2, height[1] % 10 ** 100, 7)) for width, height in self.heap]
        text = shown_heap(2, [(length(*width), length(*height)) for width, height in heap])
        self.assertTrue(10000 < len(text) < 20000)
        desk = Desk(2)
        self.assertEqual([desk.say(f"heap {name} {text}") for name in "abc"], ["ok"] * 3)
        many = len(desk.say("fewest b").split("; "))
        self.assertEqual(str(many), desk.say("rank a"))
        self.assertEqual(desk.say("make b a"), "ok")
        self.assertEqual(desk.say("maketurned c b"), "ok")
        self.assertEqual([desk.say(f"show {name}") for name in "abc"], [text] * 3)


if __name__ == "__main__":
    unittest.main()
