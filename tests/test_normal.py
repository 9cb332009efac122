"""Normal heaps, and the plans that lead to them."""

import random
import unittest
from fractions import Fraction
from itertools import product

from boardglue.bases import counts, first_base, next_base, serving
from boardglue.boards import is_heap
from boardglue.normal import normal_heap, normal_plan
from boardglue.plans import walked
from boardglue.tables import table
from samples import LONG, NO_TURNS, ROOTS, Model, as_length, near_misses, pair, sign, some_heaps, some_plan

ONE = (1, 0, 1)
TWO = (2, 0, 1)
ROOT = (0, 1, 1)


def widths(heap):
    return [one[0] for one in heap]


def base_for(d, *heaps):
    return serving(d, [width for heap in heaps for width in widths(heap)])


def some_bases_behind(d, base):
    """The base itself, and some further along the row."""
    found = []
    for steps in range(31):
        if steps in (0, 1, 2, 7, 30):
            found.append(base)
        base = next_base(d, base)
    return found


def heights(heap, base):
    """The two heights, by Python's own fractions: what each width is made of, times its board's height."""
    (a, b), (f, g) = pair(base[0]), pair(base[1])
    found = [[Fraction(0), Fraction(0)], [Fraction(0), Fraction(0)]]
    for width, height in heap:
        x, y = pair(width)
        # i * (a, b) + j * (f, g) = (x, y)
        if a != 0:
            j = (y - b * x / a) / (g - b * f / a)
            i = (x - j * f) / a
        else:
            j = x / f
            i = (y - j * g) / b
        for place, many in enumerate((i, j)):
            found[place] = [part + many * more for part, more in zip(found[place], pair(height))]
    return [as_length(*parts) for parts in found]


def as_told(heap, base):
    return [(width, height) for width, height in zip(base, heights(heap, base)) if height != (0, 0, 1)]


def great_heaps(d):
    """Of sides of many figures, some of them very near to 0."""
    misses = near_misses(d, 120)[-6:]
    thin = [one for p, q in misses for one in ((p, -q, 1), (-p, q, 10 ** 90)) if sign(d, one) > 0]
    return [
        [(one, (LONG, 0, 7)) for one in thin],
        [(ONE, thin[0]), (thin[1], thin[2]), ((LONG, LONG + 1, 5), thin[-1]), ((0, 1, LONG), (1, 1, LONG + 1))],
        [((1, LONG, 2 ** 1300), (3, 0, 10 ** 399)), ((LONG, 0, 3 ** 800), (0, 1, 5 ** 500)), (ROOT, ROOT)],
    ]


def many_heaps():
    for d in (2, 3, 61, 99):
        for heap in some_heaps():
            yield (d, heap)
    for d in (2, 82, 99):
        for heap in great_heaps(d):
            yield (d, heap)
    for d in ROOTS:
        yield (d, some_heaps()[3])


class NormalHeap(unittest.TestCase):
    def test_by_hand(self):
        heap = [((1, 1, 1), (3, 0, 1)), (ROOT, ONE), (TWO, ROOT)]
        first = first_base(2, 1)
        self.assertEqual(normal_heap(2, heap, first), [(ROOT, (4, 0, 1)), (ONE, (3, 2, 1))])
        self.assertEqual(normal_heap(2, heap, next_base(2, first)), [((-1, 1, 1), (4, 0, 1)), (ONE, (7, 2, 1))])
        halves = [((1, 0, 2), ONE), ((-1, 1, 1), (1, 0, 3))]
        self.assertEqual(base_for(2, halves), ((-1, 1, 2), (1, 0, 2)))
        self.assertEqual(normal_heap(2, halves, base_for(2, halves)), [((-1, 1, 2), (2, 0, 3)), ((1, 0, 2), ONE)])

    def test_a_board_of_height_0_is_not_there(self):
        for n in (1, 6, LONG):
            base = first_base(5, n)
            rooted = [((0, 2, 3), ROOT), (ROOT, ONE), ((0, 1, 2), TWO)]
            plain = [((2, 0, 3), ROOT), (ONE, ONE), ((1, 0, 2), TWO)]
            if n == 6:
                self.assertEqual(normal_heap(5, rooted, base), [((0, 1, 6), (12, 4, 1))])
                self.assertEqual(normal_heap(5, plain, base), [((1, 0, 6), (12, 4, 1))])
            self.assertEqual(normal_heap(5, rooted[1:2], base), [((0, 1, n), (n, 0, 1))])
            self.assertEqual(normal_heap(5, plain[1:2], base), [((1, 0, n), (n, 0, 1))])

    def test_heights(self):
        for d, heap in many_heaps():
            for base in some_bases_behind(d, base_for(d, heap)):
                before = list(heap)
                told = normal_heap(d, heap, base)
                self.assertEqual(heap, before)
                self.assertIs(type(told), list)
                self.assertEqual(told, as_told(heap, base))
                self.assertTrue(is_heap(d, told))

    def test_the_same_table(self):
        for d, heap in many_heaps():
            for base in some_bases_behind(d, base_for(d, heap))[::2]:
                self.assertEqual(table(normal_heap(d, heap, base)), table(heap))

    def test_the_same_for_the_boards_in_another_order(self):
        chance = random.Random(2)
        for d, heap in many_heaps():
            base = base_for(d, heap)
            told = normal_heap(d, heap, base)
            self.assertEqual(normal_heap(d, heap[::-1], base), told)
            self.assertEqual(normal_heap(d, chance.sample(heap, len(heap)), base), told)

    def test_of_a_normal_heap_it_is_itself(self):
        for d, heap in many_heaps():
            for base in some_bases_behind(d, base_for(d, heap)):
                told = normal_heap(d, heap, base)
                self.assertEqual(normal_heap(d, told, base), told)
                self.assertEqual(normal_heap(d, told[::-1], base), told)

    def test_two_heaps_with_one_table(self):
        chance = random.Random(9)
        for d, heap in product((2, 7, 99), some_heaps()):
            other = walked(d, heap, some_plan(d, heap, chance, 12, NO_TURNS))
            for base in some_bases_behind(d, base_for(d, heap, other)):
                self.assertEqual(normal_heap(d, heap, base), normal_heap(d, other, base))

    def test_heaps_that_differ_have_others(self):
        base = first_base(2, 1)
        heaps = [[(ONE, ONE)], [(ROOT, ONE)], [(ONE, ROOT)], [(ROOT, ROOT)], [(TWO, ONE)], [(ONE, ONE), (ROOT, ONE)]]
        self.assertEqual(len({tuple(normal_heap(2, heap, base)) for heap in heaps}), len(heaps))

    def test_a_told_heap_is_the_asker_s_own(self):
        heap = some_heaps()[2]
        base = base_for(2, heap)
        told = normal_heap(2, heap, base)
        before = list(told)
        told.reverse()
        told.append("more")
        self.assertEqual(normal_heap(2, heap, base), before)


class NormalPlan(unittest.TestCase):
    def assert_leads_there(self, d, heap, base):
        before = list(heap)
        plan = normal_plan(d, heap, base)
        self.assertEqual(heap, before)
        self.assertIs(type(plan), list)
        self.assertEqual({type(deed) for deed in plan} - {tuple}, set())
        self.assertNotIn("turn", [deed[0] for deed in plan])
        told = as_told(heap, base)
        self.assertEqual(walked(d, heap, plan), told)
        model = Model(heap)
        for deed in plan:
            model.do(deed)
        self.assertEqual(model.heap(), told)

    def test_by_the_first_base_that_serves_and_by_those_behind(self):
        for d, heap in many_heaps():
            for base in some_bases_behind(d, base_for(d, heap)):
                self.assert_leads_there(d, heap, base)

    def test_one_board(self):
        for d in ROOTS:
            for width, height in product((ONE, ROOT, (1, 1, 2), (0, 3, 4), (-1, 1, 1), (LONG, 2, 3)), (ONE, (1, LONG, 6))):
                heap = [(width, height)]
                for base in some_bases_behind(d, base_for(d, heap))[:3]:
                    self.assert_leads_there(d, heap, base)

    def test_every_order_of_boards_with_one_count_and_with_both(self):
        base = first_base(2, 1)
        kinds = ((ROOT, ONE), (TWO, ROOT), ((1, 3, 1), ONE))
        for many in (1, 2, 3, 4):
            for heap in product(kinds, repeat=many):
                self.assert_leads_there(2, list(heap), base)

    def test_boards_alike(self):
        for one in some_heaps()[2] + [(ROOT, ONE)]:
            for many in (2, 5, 60):
                heap = [one] * many
                self.assert_leads_there(2, heap, base_for(2, heap))

    def test_a_normal_heap_s_own_plan(self):
        for d, heap in many_heaps():
            for base in some_bases_behind(d, base_for(d, heap))[:2]:
                told = normal_heap(d, heap, base)
                self.assert_leads_there(d, told, base)
                self.assert_leads_there(d, told[::-1], base)

    def test_sixty_boards_of_many_figures(self):
        heap = [((LONG - k, k, 10 ** 150 + 7 * k), (k, 1, 10 ** 150 + 3 * k)) for k in range(60)]
        self.assert_leads_there(2, heap, base_for(2, heap))

    def test_a_told_plan_is_the_asker_s_own(self):
        heap = some_heaps()[2]
        base = base_for(2, heap)
        plan = normal_plan(2, heap, base)
        before = list(plan)
        plan.reverse()
        plan.append("more")
        self.assertEqual(normal_plan(2, heap, base), before)
        self.assertEqual(counts(2, base, base[0]), (1, 0))


if __name__ == "__main__":
    unittest.main()
