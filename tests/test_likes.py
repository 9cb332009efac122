"""Like heaps: a plan from the one to the other, or the first place where their tables are unlike."""

import random
import unittest
from itertools import combinations, product

from boardglue.bases import next_base, serving
from boardglue.lengths import length
from boardglue.likes import like
from boardglue.normal import normal_heap
from boardglue.plans import walked
from boardglue.tables import table
from samples import LONG, NO_TURNS, ROOTS, Model, near_misses, sign, some_heaps, some_plan

ONE = (1, 0, 1)
TWO = (2, 0, 1)
ROOT = (0, 1, 1)
PLACES = [(0, 0), (0, 1), (1, 0), (1, 1)]
# By each place, a board whose table is 1 there and 0 elsewhere.
ALONE = {(0, 0): (ONE, ONE), (0, 1): (ONE, ROOT), (1, 0): (ROOT, ONE), (1, 1): (ROOT, ROOT)}


class Checks(unittest.TestCase):
    def assert_made(self, d, one, other):
        before = (list(one), list(other))
        told = like(d, one, other)
        self.assertEqual((one, other), before)
        self.assertEqual((type(told), len(told), told[0]), (tuple, 3, "plan"))
        word, plan, places = told
        self.assertEqual((type(plan), type(places)), (list, list))
        self.assertEqual([type(place) for place in places], [int] * len(other))
        self.assertEqual(sorted(places), list(range(len(other))))
        self.assertNotIn("turn", [deed[0] for deed in plan])
        model = Model(one)
        for deed in plan:
            model.do(deed)
        for end in (walked(d, one, plan), model.heap()):
            self.assertEqual(len(end), len(other))
            self.assertEqual([end[place] for place in places], other)

    def assert_made_both_ways(self, d, one, other):
        self.assert_made(d, one, other)
        self.assert_made(d, other, one)

    def assert_apart(self, d, one, other, place):
        before = (list(one), list(other))
        for told in (like(d, one, other), like(d, other, one)):
            self.assertIs(type(told), tuple)
            self.assertEqual(told, ("apart",) + place)
            self.assertEqual([type(part) for part in told], [str, int, int])
        self.assertEqual((one, other), before)


class Plans(Checks):
    def test_by_hand(self):
        self.assert_made_both_ways(2, [(TWO, ONE)], [(ONE, TWO)])
        self.assert_made_both_ways(2, [(ROOT, ONE), (ONE, ONE)], [((1, 1, 1), ONE)])
        self.assert_made_both_ways(2, [(ROOT, ONE), (ONE, ROOT)], [(ONE, ROOT), (ROOT, ONE)])
        self.assert_made_both_ways(2, [((1, 1, 1), (1, 1, 1))], list(ALONE.values()))
        self.assert_made_both_ways(2, [((1, 0, 2), (2, 4, 1)), (ROOT, (1, 0, 3))], [(ONE, (1, 2, 1)), ((0, 1, 3), ONE)])

    def test_a_heap_and_itself(self):
        for d, heap in product((2, 3, 61, 99), some_heaps()):
            self.assert_made(d, heap, heap)
            self.assert_made(d, heap, list(heap))

    def test_a_heap_and_its_boards_in_another_order(self):
        chance = random.Random(7)
        for d, heap in product((2, 3, 61, 99), some_heaps()):
            self.assert_made(d, heap, heap[::-1])
            self.assert_made(d, chance.sample(heap, len(heap)), heap)

    def test_boards_alike(self):
        board = ((-1, 1, 2), (3, 1, 5))
        for many in (1, 2, 7, 60):
            self.assert_made_both_ways(2, [board] * many, [(length(-many, many, 2), board[1])])
            self.assert_made(2, [board] * many, [board] * many)

    def test_heaps_made_of_one_another(self):
        chance = random.Random(12)
        for d, heap in product((2, 7, 99), some_heaps()):
            for many in (1, 3, 15):
                self.assert_made_both_ways(d, heap, walked(d, heap, some_plan(d, heap, chance, many, NO_TURNS)))

    def test_each_deed_alone(self):
        chance = random.Random(13)
        heap = some_heaps()[2]
        for d, word in product((2, 5, 99), NO_TURNS):
            self.assert_made_both_ways(d, heap, walked(d, heap, some_plan(d, heap, chance, 1, (word,))))

    def test_all_roots(self):
        chance = random.Random(14)
        for d, heap in product(ROOTS, some_heaps()[1:4]):
            self.assert_made_both_ways(d, heap, walked(d, heap, some_plan(d, heap, chance, 6, NO_TURNS)))

    def test_a_heap_and_its_normal_heaps(self):
        for d, heap in product((2, 99), some_heaps()):
            base = serving(d, [one[0] for one in heap])
            for steps in range(3):
                self.assert_made_both_ways(d, heap, normal_heap(d, heap, base))
                base = next_base(d, base)

    def test_great_numbers(self):
        for d in (2, 46, 99):
            misses = near_misses(d, 390)[-2:]
            thin = [one for p, q in misses for one in ((p, -q, 1), (-p, q, 3)) if sign(d, one) > 0]
            heap = [(one, (LONG, 0, 7)) for one in thin] + [((1, 0, LONG), thin[0]), ((LONG, 1, 2), (LONG, 2, LONG + 1))]
            plan = [("across", 0, (thin[0][0], thin[0][1], 9)), ("stack", 3, 10 ** 200), ("spread", 2, 3 ** 300)]
            self.assert_made_both_ways(d, heap, walked(d, heap, plan))

    def test_what_is_told_is_the_asker_s_own(self):
        one, other = some_heaps()[2], some_heaps()[2][::-1]
        told = like(2, one, other)
        before = (list(told[1]), list(told[2]))
        told[1].reverse()
        told[1].append("more")
        told[2].clear()
        self.assertEqual(like(2, one, other)[1:], before)


class Apart(Checks):
    def test_by_hand(self):
        self.assert_apart(2, [(ONE, ONE)], [(TWO, ONE)], (0, 0))
        self.assert_apart(2, [(ROOT, ONE)], [(ONE, ROOT)], (0, 1))
        self.assert_apart(2, [(ROOT, ROOT)], [(TWO, ONE)], (0, 0))
        self.assert_apart(2, [((1, 1, 1), ONE)], [(ONE, ONE), ((0, 2, 1), ONE)], (1, 0))
        self.assert_apart(2, [(ROOT, ROOT)], [((0, 2, 1), ROOT)], (1, 1))

    def test_whichever_places_are_unlike_the_first_is_told(self):
        for d, heap in product((2, 3, 99), some_heaps()):
            for many in (1, 2, 3, 4):
                for places in combinations(PLACES, many):
                    self.assert_apart(d, heap, heap + [ALONE[place] for place in places], places[0])

    def test_less_and_more(self):
        for heap in some_heaps():
            for place, later in combinations(PLACES, 2):
                self.assert_apart(5, heap + [ALONE[place]], heap + [ALONE[later]], place)

    def test_very_little_apart(self):
        for place, (width, height) in ALONE.items():
            heap = [(width, height)]
            thin, thinner = [((width[0], width[1], LONG + more), height) for more in (0, 1)]
            self.assert_apart(2, heap + [thin], heap + [thinner], place)
            self.assert_apart(2, heap, heap + [thin], place)

    def test_a_plan_just_where_the_tables_are_alike(self):
        chance = random.Random(15)
        sides = [ONE, TWO, ROOT, (0, 2, 1)]
        seen = {"plan": 0, "apart": 0}
        for tries in range(3000):
            one, other = [[(chance.choice(sides), chance.choice(sides)) for many in range(2)] for heaps in range(2)]
            unlike = [place for place in PLACES if table(one)[place[0]][place[1]] != table(other)[place[0]][place[1]]]
            if unlike:
                self.assert_apart(3, one, other, unlike[0])
            else:
                self.assert_made_both_ways(3, one, other)
            seen["apart" if unlike else "plan"] += 1
        self.assertGreater(min(seen.values()), 30)


if __name__ == "__main__":
    unittest.main()
