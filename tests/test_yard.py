"""The yard: names, the seven deeds, and every refusal in its order."""

import copy
import random
import unittest
from itertools import product

from boardglue.errors import Grain, NoDeed, NoName, Unfit, YardError
from boardglue.yard import Yard
from samples import LONG, ROOTS, Model, Prickly, near_misses, no_lengths, no_wholes, some_heaps, some_plan

WORDS = ("across", "along", "beside", "atop", "stack", "spread", "turn")
ONE = (1, 0, 1)
TWO = (2, 0, 1)
ROOT = (0, 1, 1)
HEAP = [((3, 0, 1), ONE), ((0, 2, 1), ONE), ((3, 0, 1), ROOT), (ROOT, TWO)]


def good_deeds():
    """Each goes over HEAP by root 2, where turnings are let."""
    return [
        ("across", 0, ONE), ("along", 3, ROOT), ("beside", 0, 1), ("atop", 2, 0), ("stack", 1, 3), ("spread", 2, 4),
        ("stack", 3, 1), ("spread", 3, 1), ("turn", 3),
    ]


def no_manys():
    return no_wholes() + [0, -1, -LONG]


def no_names():
    """By a yard over HEAP: other kinds, numbers never used, and things that equal names."""
    return no_wholes() + [-1, 4, 5, 99, LONG, -LONG, (0,), [0], {0}, {0: 0}, "0", 0.0, 1.0, 1 + 0j]


def no_deeds():
    """Things of any kind that are no deeds, whatever their names."""
    found = no_wholes() + [0, 1, "turn", "across", ["turn", 0], ["across", 0, ONE], {"turn": 0}, ("turn", 0).__iter__()]
    for word in WORDS:
        found += [(word,), word, [word, 0], (word, 0, 1, 2), (word, 0, ONE, ONE), (word, 0, 1, 2, 3), ((word, 0),)]
    found += [(word, 0) for word in WORDS[:-1]]
    found += [("turn", 0, 1), ("turn", 0, ONE), ("turn", 0, None)]
    for word in ("across", "along"):
        found += [(word, 0, at) for at in no_lengths()]
    for word in ("stack", "spread"):
        found += [(word, 0, many) for many in no_manys()]
    others = ["", "Across", "ACROSS", " across", "across ", "cut", "turned", "Turn", "besides", "0", "at", "a", "\u0430cross"]
    for word in others + [b"across", b"turn"] + no_wholes() + [0, 1, ("across",), ["turn"]]:
        found += [(word, 0), (word, 0, 1), (word, 0, ONE), (word, 0, 1, 2), (word,)]
    return found + [()]


def with_names(deed, one, other):
    """The deed with other names in its places, where it has such places."""
    if not isinstance(deed, tuple) or len(deed) < 2:
        return deed
    gluing = isinstance(deed[0], str) and deed[0] in ("beside", "atop") and len(deed) > 2
    return (deed[0], one) + ((other,) + deed[3:] if gluing else deed[2:])


class Checks(unittest.TestCase):
    def assert_refused(self, yard, deed, error):
        before = (yard.boards(), yard.heap(), yard.log())
        with self.assertRaises(error) as caught:
            yard.do(deed)
        self.assertIs(type(caught.exception), error)
        self.assertEqual((yard.boards(), yard.heap(), yard.log()), before)

    def assert_next_names(self, yard, names):
        """The next deed's new boards are called so."""
        name = yard.boards()[0][0]
        yard.do(("stack", name, 1))
        self.assertEqual([one for one, _ in yard.boards()][-1:], names)

    def assert_told(self, deed, boards, heap=HEAP, d=2):
        yard = Yard(d, heap, True)
        self.assertIsNone(yard.do(deed))
        self.assertEqual(yard.boards(), boards)
        self.assertEqual(yard.heap(), [one for _, one in boards])
        self.assertEqual(yard.log(), [deed])


class Names(Checks):
    def test_from_0_on_in_the_heaps_order(self):
        for heap in some_heaps():
            yard = Yard(2, heap)
            self.assertEqual(yard.boards(), list(enumerate(heap)))
            self.assertEqual(yard.heap(), heap)
            self.assertEqual(yard.log(), [])

    def test_kinds(self):
        yard = Yard(2, HEAP)
        yard.do(("across", 0, ONE))
        self.assertIs(type(yard.boards()), list)
        self.assertIs(type(yard.heap()), list)
        self.assertIs(type(yard.log()), list)
        for named in yard.boards():
            self.assertIs(type(named), tuple)
            self.assertIs(type(named[0]), int)

    def test_names_are_never_used_again(self):
        yard = Yard(2, [((4, 0, 1), ONE)])
        yard.do(("across", 0, ONE))
        yard.do(("beside", 2, 1))
        self.assertEqual(yard.boards(), [(3, ((4, 0, 1), ONE))])
        yard.do(("across", 3, ONE))
        yard.do(("stack", 4, 1))
        self.assertEqual(yard.boards(), [(5, ((3, 0, 1), ONE)), (6, (ONE, ONE))])
        for name in (0, 1, 2, 3, 4, 7):
            self.assert_refused(yard, ("stack", name, 1), NoName)
        self.assert_next_names(yard, [7])


class Deeds(Checks):
    def test_across(self):
        self.assert_told(
            ("across", 1, ROOT),
            [(0, HEAP[0]), (2, HEAP[2]), (3, HEAP[3]), (4, (ROOT, ONE)), (5, (ROOT, ONE))],
        )
        self.assert_told(("across", 0, ROOT), [(1, (ROOT, TWO)), (2, ((3, -1, 1), TWO))], [((3, 0, 1), TWO)])
        self.assert_told(("across", 0, (1, 0, 3)), [(1, ((1, 0, 3), TWO)), (2, ((1, 0, 6), TWO))], [((1, 0, 2), TWO)])

    def test_along(self):
        self.assert_told(("along", 0, ROOT), [(1, (TWO, ROOT)), (2, (TWO, (3, -1, 1)))], [(TWO, (3, 0, 1))])
        self.assert_told(("along", 0, (1, 0, 3)), [(1, (TWO, (1, 0, 3))), (2, (TWO, (1, 0, 6)))], [(TWO, (1, 0, 2))])

    def test_beside(self):
        self.assert_told(("beside", 0, 1), [(2, HEAP[2]), (3, HEAP[3]), (4, ((3, 2, 1), ONE))])
        self.assert_told(("beside", 1, 0), [(2, HEAP[2]), (3, HEAP[3]), (4, ((3, 2, 1), ONE))])

    def test_atop(self):
        self.assert_told(("atop", 0, 2), [(1, HEAP[1]), (3, HEAP[3]), (4, ((3, 0, 1), (1, 1, 1)))])
        self.assert_told(("atop", 2, 0), [(1, HEAP[1]), (3, HEAP[3]), (4, ((3, 0, 1), (1, 1, 1)))])

    def test_stack(self):
        self.assert_told(("stack", 0, 6), [(1, ((1, 1, 12), (9, 0, 2)))], [((1, 1, 2), (3, 0, 4))])
        self.assert_told(("stack", 0, 6), [(1, ((1, 0, 1), (0, 12, 1)))], [((6, 0, 1), (0, 2, 1))])
        self.assert_told(("stack", 0, LONG), [(1, ((1, 0, LONG), (LONG, 0, 1)))], [(ONE, ONE)])

    def test_spread(self):
        self.assert_told(("spread", 0, 6), [(1, ((3, 3, 1), (1, 0, 8)))], [((1, 1, 2), (3, 0, 4))])
        self.assert_told(("spread", 0, 6), [(1, ((0, 12, 1), (1, 0, 1)))], [((0, 2, 1), (6, 0, 1))])
        self.assert_told(("spread", 0, LONG), [(1, ((LONG, 0, 1), (1, 0, LONG)))], [(ONE, ONE)])

    def test_many_of_1_only_gives_a_new_name(self):
        for word, name in product(("stack", "spread"), range(4)):
            left = [(k, one) for k, one in enumerate(HEAP) if k != name]
            self.assert_told((word, name, 1), left + [(4, HEAP[name])])

    def test_turn(self):
        self.assert_told(("turn", 0), [(1, ((3, 0, 4), (1, 1, 2)))], [((1, 1, 2), (3, 0, 4))])
        self.assert_told(("turn", 2), [(0, HEAP[0]), (1, HEAP[1]), (3, HEAP[3]), (4, (ROOT, (3, 0, 1)))])

    def test_without_turning_all_else_is_done(self):
        for yard in (Yard(2, HEAP), Yard(2, HEAP, False), Yard(2, HEAP, turning=False)):
            done = []
            for deed in (("across", 0, ONE), ("along", 3, ONE), ("stack", 1, 2), ("spread", 2, 2), ("atop", 6, 7)):
                yard.do(deed)
                done.append(deed)
                self.assertEqual(yard.log(), done)

    def test_turning_may_be_named(self):
        yard = Yard(turning=True, heap=HEAP, d=2)
        yard.do(("turn", 0))
        self.assertEqual(yard.log(), [("turn", 0)])

    def test_long_rows_of_deeds(self):
        chance = random.Random(3)
        for d, heap in product((2, 3, 61, 99), some_heaps()):
            plan = some_plan(d, heap, chance, 30, WORDS)
            yard, model = Yard(d, heap, True), Model(heap)
            for done, deed in enumerate(plan, start=1):
                self.assertIsNone(yard.do(deed))
                model.do(deed)
                self.assertEqual(yard.boards(), model.named())
                self.assertEqual(yard.heap(), model.heap())
                self.assertEqual(yard.log(), plan[:done])


class OwnLists(Checks):
    def test_told_lists_are_the_askers_own(self):
        yard = Yard(2, HEAP)
        yard.do(("across", 0, ONE))
        before = (yard.boards(), yard.heap(), yard.log())
        kept = copy.deepcopy(before)
        for told in (yard.boards(), yard.heap(), yard.log()):
            told.reverse()
            told.append("more")
            told[0] = None
        self.assertEqual((yard.boards(), yard.heap(), yard.log()), kept)
        yard.do(("beside", 4, 5))
        self.assertEqual(before, kept)
        self.assertEqual(yard.log(), [("across", 0, ONE), ("beside", 4, 5)])

    def test_the_heap_handed_in_stays_and_is_not_kept(self):
        heap = list(HEAP)
        yard = Yard(2, heap)
        yard.do(("across", 0, ONE))
        self.assertEqual(heap, HEAP)
        kept = (yard.boards(), yard.heap())
        heap.clear()
        heap.append("more")
        self.assertEqual((yard.boards(), yard.heap()), kept)

    def test_two_yards_do_not_hang_together(self):
        heap = list(HEAP)
        one, other = Yard(2, heap), Yard(2, heap, True)
        one.do(("across", 0, ONE))
        self.assertEqual((other.heap(), other.log()), (HEAP, []))
        other.do(("turn", 3))
        self.assertEqual(one.log(), [("across", 0, ONE)])
        self.assertEqual([name for name, _ in one.boards()], [1, 2, 3, 4, 5])
        self.assertEqual([name for name, _ in other.boards()], [0, 1, 2, 4])
        self.assert_refused(one, ("turn", 1), Grain)


class Refusals(Checks):
    def test_what_is_no_deed_whatever_its_names(self):
        for turning in (False, True):
            yard = Yard(2, HEAP, turning)
            for deed in no_deeds():
                with self.subTest(kind=deed.__class__):
                    self.assert_refused(yard, deed, NoDeed)
                    for one, other in ((99, 99), (0, 0), ("x", []), (None, True), (Prickly(), Prickly())):
                        self.assert_refused(yard, with_names(deed, one, other), NoDeed)
            self.assert_next_names(yard, [4])

    def test_deeds_whose_tuples_are_lists(self):
        yard = Yard(2, HEAP, True)
        for deed in good_deeds():
            self.assert_refused(yard, list(deed), NoDeed)
        self.assert_refused(yard, ("across", 0, [1, 0, 1]), NoDeed)

    def test_names_of_no_board(self):
        for turning in (False, True):
            yard = Yard(2, HEAP, turning)
            for name in no_names():
                with self.subTest(kind=name.__class__):
                    for deed in good_deeds() + [("across", 0, (0, 0, 1)), ("along", 0, (-5, 0, 1))]:
                        self.assert_refused(yard, with_names(deed, name, 0), NoName)
                    for word in ("beside", "atop"):
                        self.assert_refused(yard, (word, 0, name), NoName)
                        self.assert_refused(yard, (word, name, name), NoName)
            self.assert_next_names(yard, [4])

    def test_names_of_boards_taken_away(self):
        yard = Yard(2, HEAP, True)
        yard.do(("beside", 0, 1))
        yard.do(("turn", 4))
        for name in (0, 1, 4):
            for deed in good_deeds():
                self.assert_refused(yard, with_names(deed, name, 2), NoName)
            for word in ("beside", "atop"):
                self.assert_refused(yard, (word, 2, name), NoName)
        self.assert_next_names(yard, [6])

    def test_one_board_named_twice(self):
        yard = Yard(2, HEAP)
        for word, name in product(("beside", "atop"), range(4)):
            self.assert_refused(yard, (word, name, name), NoName)
        self.assert_next_names(yard, [4])

    def test_truths_are_no_names_though_they_equal_some(self):
        yard = Yard(2, [(ONE, ONE)] * 3, True)
        for deed in (
            ("turn", True), ("turn", False), ("stack", True, 1), ("beside", True, 0), ("beside", 0, True),
            ("atop", False, 1), ("atop", 1, False), ("across", True, (1, 0, 2)),
        ):
            self.assert_refused(yard, deed, NoName)
        self.assert_refused(yard, ("stack", 0, True), NoDeed)
        self.assert_refused(yard, ("across", 0, (True, 0, 2)), NoDeed)
        self.assert_next_names(yard, [3])

    def test_grain(self):
        for yard in (Yard(2, HEAP), Yard(2, HEAP, False), Yard(2, HEAP, turning=False)):
            for name in range(4):
                self.assert_refused(yard, ("turn", name), Grain)
            self.assert_refused(yard, ("turn", 4), NoName)
            self.assert_refused(yard, ("turn", True), NoName)
            self.assert_refused(yard, ("turn", 0, 0), NoDeed)
            self.assert_next_names(yard, [4])

    def test_a_square_is_not_turned_either(self):
        self.assert_refused(Yard(2, [(ONE, ONE)]), ("turn", 0), Grain)

    def test_cuts_that_are_not_within_the_board(self):
        yard = Yard(2, [((3, 0, 2), ROOT)], True)
        for at in ((0, 0, 1), (-1, 0, 1), (0, -1, 1), (1, -1, 1), (3, 0, 2), (2, 0, 1), (1, 1, 1), (LONG, 0, 1), (-LONG, 0, 1)):
            with self.subTest(at):
                self.assert_refused(yard, ("across", 0, at), Unfit)
        for at in ((0, 0, 1), (-1, 0, 1), (0, -1, 1), (1, -1, 1), ROOT, (3, 0, 2), (1, 1, 1), (LONG, 0, 1), (-LONG, 0, 1)):
            with self.subTest(at):
                self.assert_refused(yard, ("along", 0, at), Unfit)
        self.assert_refused(yard, ("along", 0, (3, 0, 2)), Unfit)
        self.assert_next_names(yard, [1])
        yard.do(("across", 1, ROOT))
        self.assertEqual(yard.boards(), [(2, (ROOT, ROOT)), (3, ((3, -2, 2), ROOT))])

    def test_cuts_very_near_to_the_side(self):
        for d in ROOTS[::5]:
            for p, q in near_misses(d, 190)[-2:]:
                inner, outer = ((p, 0, 1), (0, q, 1)) if p * p < d * q * q else ((0, q, 1), (p, 0, 1))
                yard = Yard(d, [(inner, inner), (outer, outer)])
                self.assert_refused(yard, ("across", 0, outer), Unfit)
                self.assert_refused(yard, ("along", 0, outer), Unfit)
                yard.do(("across", 1, inner))
                rest = (outer[0] - inner[0], outer[1] - inner[1], 1)
                self.assertEqual(yard.boards(), [(0, (inner, inner)), (2, (inner, outer)), (3, (rest, outer))])

    def test_sides_that_are_not_alike(self):
        yard = Yard(2, HEAP, True)
        for one, other in product(range(4), repeat=2):
            if one != other and HEAP[one][1] != HEAP[other][1]:
                self.assert_refused(yard, ("beside", one, other), Unfit)
            if one != other and HEAP[one][0] != HEAP[other][0]:
                self.assert_refused(yard, ("atop", one, other), Unfit)
        self.assert_next_names(yard, [4])

    def test_alike_only_on_the_other_side(self):
        yard = Yard(2, [(ONE, TWO), (ONE, ROOT), (TWO, ROOT)])
        self.assert_refused(yard, ("beside", 0, 1), Unfit)
        self.assert_refused(yard, ("atop", 1, 2), Unfit)
        self.assert_refused(yard, ("atop", 0, 2), Unfit)
        yard.do(("atop", 0, 1))
        self.assertEqual(yard.boards(), [(2, (TWO, ROOT)), (3, (ONE, (2, 1, 1)))])

    def test_every_refusal_is_a_yard_error(self):
        yard = Yard(2, HEAP)
        for deed in (None, ("turn", 9), ("turn", 0), ("beside", 0, 3)):
            with self.assertRaises(YardError):
                yard.do(deed)


if __name__ == "__main__":
    unittest.main()
