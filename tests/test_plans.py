"""Plans walked, and plans turned about."""

import copy
import random
import unittest
from itertools import product

from boardglue.errors import Grain, NoDeed, NoName, Unfit
from boardglue.plans import back, walked
from samples import LONG, Model, some_heaps, some_plan

WORDS = ("across", "along", "beside", "atop", "stack", "spread", "turn")
ONE = (1, 0, 1)
TWO = (2, 0, 1)
ROOT = (0, 1, 1)
HEAP = [((3, 0, 1), ONE), ((0, 2, 1), ONE), ((3, 0, 1), ROOT), (ROOT, TWO)]
EACH_ALONE = [
    [("across", 0, ONE)], [("along", 3, ROOT)], [("beside", 0, 1)], [("beside", 1, 0)], [("atop", 2, 0)],
    [("atop", 0, 2)], [("stack", 1, 3)], [("spread", 2, 4)], [("stack", 0, 1)], [("spread", 3, 1)], [("turn", 3)],
]


def has_turns(plan):
    return any(deed[0] == "turn" for deed in plan)


class Walked(unittest.TestCase):
    def test_by_hand(self):
        plan = [("across", 0, ONE), ("beside", 5, 1), ("atop", 2, 6)]
        self.assertEqual(walked(2, HEAP, plan[:1]), HEAP[1:] + [(ONE, ONE), (TWO, ONE)])
        self.assertEqual(walked(2, HEAP, plan[:2]), HEAP[2:] + [(ONE, ONE), ((2, 2, 1), ONE)])
        with self.assertRaises(Unfit):
            walked(2, HEAP, plan)

    def test_the_empty_plan(self):
        for heap in some_heaps():
            told = walked(2, heap, [])
            self.assertEqual(told, heap)
            told.append("more")
            self.assertEqual(len(heap), len(told) - 1)

    def test_turning_handed_in_left_out_and_false(self):
        heap, told = [(ONE, TWO)], [(TWO, ONE)]
        self.assertEqual(walked(2, heap, [("turn", 0)], True), told)
        self.assertEqual(walked(2, heap, [("turn", 0)], turning=True), told)
        for more in ({}, {"turning": False}):
            with self.assertRaises(Grain):
                walked(2, heap, [("turn", 0)], **more)
        with self.assertRaises(Grain):
            walked(2, heap, [("turn", 0)], False)
        for turning in (True, False):
            self.assertEqual(walked(2, heap, [("stack", 0, 2)], turning), [((1, 0, 2), (4, 0, 1))])

    def test_what_a_deed_refuses_is_refused(self):
        for deed, error in (
            (None, NoDeed), ("turn", NoDeed), (["stack", 1, 1], NoDeed), (("stack", 1, 0), NoDeed), (("cut", 1), NoDeed),
            (("stack", 0, 1), NoName), (("stack", True, 1), NoName), (("beside", 1, 1), NoName), (("turn", 1), Grain),
            (("across", 1, (0, 2, 1)), Unfit), (("beside", 1, 3), Unfit), (("atop", 1, 3), Unfit),
        ):
            for plan in ([("across", 0, ONE), deed], [("across", 0, ONE), deed, ("stack", 2, 1)]):
                heap, before = list(HEAP), copy.deepcopy(plan)
                with self.subTest(deed), self.assertRaises(error) as caught:
                    walked(2, heap, plan)
                self.assertIs(type(caught.exception), error)
                self.assertEqual((heap, plan), (HEAP, before))

    def test_long_plans(self):
        chance = random.Random(5)
        for d, heap in product((2, 7, 99), some_heaps()):
            plan = some_plan(d, heap, chance, 30, WORDS)
            heap_before, plan_before, model = list(heap), list(plan), Model(heap)
            for deed in plan:
                model.do(deed)
            told = walked(d, heap, plan, True)
            self.assertIs(type(told), list)
            self.assertEqual(told, model.heap())
            self.assertEqual((heap, plan), (heap_before, plan_before))


class Back(unittest.TestCase):
    def assert_leads_back(self, d, heap, plan):
        heap_before, plan_before = list(heap), list(plan)
        told = back(d, heap, plan)
        self.assertEqual((heap, plan), (heap_before, plan_before))
        self.assertIs(type(told), tuple)
        self.assertEqual([type(part) for part in told], [list, list])
        deeds, places = told
        turning = has_turns(plan)
        self.assertEqual(has_turns(deeds), turning)
        end = walked(d, walked(d, heap, plan, turning), deeds, turning)
        self.assertEqual(len(end), len(heap))
        self.assertEqual([type(place) for place in places], [int] * len(heap))
        self.assertEqual(sorted(places), list(range(len(heap))))
        self.assertEqual([end[place] for place in places], heap)

    def test_the_empty_plan(self):
        for heap in some_heaps():
            self.assertEqual(back(2, heap, []), ([], list(range(len(heap)))))

    def test_each_deed_alone(self):
        for plan in EACH_ALONE:
            with self.subTest(plan):
                self.assert_leads_back(2, HEAP, plan)

    def test_boards_alike_are_told_apart_by_their_places(self):
        heap = [(ONE, ONE), (TWO, ONE), (ONE, ONE), (TWO, ONE)]
        for plan in ([("stack", 2, 1)], [("beside", 2, 1)], [("beside", 3, 0), ("across", 4, ONE)]):
            self.assert_leads_back(2, heap, plan)

    def test_all_seven_deeds(self):
        plan = [
            ("across", 0, ONE), ("along", 3, ROOT), ("beside", 1, 5), ("spread", 2, 3), ("stack", 8, 6), ("turn", 10),
            ("atop", 6, 7), ("stack", 9, 2), ("turn", 12), ("spread", 4, 1),
        ]
        self.assertEqual({deed[0] for deed in plan}, set(WORDS))
        for many in range(len(plan) + 1):
            self.assert_leads_back(2, HEAP, plan[:many])

    def test_long_plans(self):
        chance = random.Random(11)
        for d, heap, words in product((2, 7, 99), some_heaps(), (WORDS, WORDS[:-1], ("across", "beside", "atop"))):
            self.assert_leads_back(d, heap, some_plan(d, heap, chance, 30, words))

    def test_back_of_back(self):
        chance = random.Random(13)
        for heap in some_heaps():
            plan = some_plan(2, heap, chance, 20, WORDS)
            self.assert_leads_back(2, walked(2, heap, plan, True), back(2, heap, plan)[0])

    def test_a_plan_of_very_many_deeds(self):
        heap = [((LONG, 1, 3), (1, LONG, 2))] * 2
        plan = [("stack" if name % 3 else "spread", name, 1 + name % 2) for name in range(3000)]
        self.assert_leads_back(2, heap, plan)

    def test_told_lists_are_new_ones(self):
        plan = [("across", 0, ONE)]
        one = back(2, HEAP, plan)
        one[0].clear()
        one[1].clear()
        self.assertNotEqual(back(2, HEAP, plan), one)
        self.assertEqual(plan, [("across", 0, ONE)])


if __name__ == "__main__":
    unittest.main()
