"""The desk: every row and its answer, and every refusal, which changes nothing."""

import random
import unittest
from itertools import product

from boardglue.desk import Desk
from boardglue.errors import Apart, NoBoard, NoName, NoRow, NoText, TooMany, YardError
from boardglue.fewest import fewest
from boardglue.lengths import length
from boardglue.likes import like
from boardglue.notes import read_heap, shown_heap
from boardglue.squares import squares
from boardglue.tables import table, worth
from boardglue.turns import like_turned
from samples import LONG, ROOTS, Prickly, no_wholes, some_heaps, turned_about

WORDS = ["drop", "show", "area", "table", "rank", "names", "like", "turned", "make", "maketurned", "fewest", "board",
         "squares", "heap"]
ONE_NAME = ["drop", "show", "area", "table", "rank", "fewest", "squares"]
TWO_NAMES = ["like", "turned", "make", "maketurned"]


def desk_with(d, **heaps):
    desk = Desk(d)
    for name, text in heaps.items():
        desk.say(f"heap {name} {text}")
    return desk


def all_kept(desk):
    names = desk.say("names")
    return {} if names == "-" else {name: desk.say(f"show {name}") for name in names.split(" ")}


class Checks(unittest.TestCase):
    def assert_said(self, desk, row, answer):
        told = desk.say(row)
        self.assertIs(type(told), str)
        self.assertEqual(told, answer, row)

    def assert_refused(self, desk, row, error):
        before = all_kept(desk)
        with self.assertRaises(YardError) as caught:
            desk.say(row)
        self.assertIs(type(caught.exception), error, repr(row)[:100])
        self.assertEqual(all_kept(desk), before)


class Keeping(Checks):
    def test_heap_and_show(self):
        desk = Desk(2)
        self.assert_said(desk, "heap a 1x1", "ok")
        self.assert_said(desk, "show a", "1x1")
        self.assert_said(desk, "heap b 1+r2x1; 1/2r2x3-r2; 1x1; 1x1", "ok")
        self.assert_said(desk, "show b", "1+r2x1; 1/2r2x3-r2; 1x1; 1x1")
        self.assert_said(desk, "show a", "1x1")
        self.assert_said(desk, "heap a 2xr2", "ok")
        self.assert_said(desk, "show a", "2xr2")

    def test_names(self):
        desk = Desk(2)
        self.assert_said(desk, "names", "-")
        self.assert_said(desk, "heap b 1x1", "ok")
        self.assert_said(desk, "names", "b")
        for name in ("b", "abcdefgh", "a", "zzzzzzzz", "aa", "ba", "names", "heap"):
            self.assert_said(desk, f"heap {name} 1x1", "ok")
        self.assert_said(desk, "names", "a aa abcdefgh b ba heap names zzzzzzzz")
        self.assert_said(desk, "heap b 2x2", "ok")
        self.assert_said(desk, "names", "a aa abcdefgh b ba heap names zzzzzzzz")
        self.assert_said(desk, "drop aa", "ok")
        self.assert_said(desk, "names", "a abcdefgh b ba heap names zzzzzzzz")

    def test_drop(self):
        desk = desk_with(2, a="1x1", b="2x2")
        self.assert_said(desk, "drop a", "ok")
        self.assert_refused(desk, "show a", NoName)
        self.assert_refused(desk, "drop a", NoName)
        self.assert_said(desk, "show b", "2x2")
        self.assert_said(desk, "drop b", "ok")
        self.assert_said(desk, "names", "-")
        self.assert_said(desk, "heap a 3x3", "ok")
        self.assert_said(desk, "show a", "3x3")

    def test_every_letter_is_one_of_names(self):
        desk = Desk(2)
        for letter in "abcdefghijklmnopqrstuvwxyz":
            self.assert_said(desk, f"heap {letter} 1x1", "ok")
        self.assert_said(desk, "names", " ".join("abcdefghijklmnopqrstuvwxyz"))

    def test_desks_keep_their_own(self):
        one, other = Desk(2), Desk(2)
        one.say("heap a 1x1")
        self.assert_said(other, "names", "-")
        other.say("heap a 2x2")
        self.assert_said(one, "show a", "1x1")

    def test_the_root(self):
        for d in ROOTS:
            desk = Desk(d)
            self.assert_said(desk, f"heap a 1+r{d}x2r{d}", "ok")
            self.assert_said(desk, "show a", f"1+r{d}x2r{d}")
            self.assert_said(desk, "area a", f"{2 * d}+2r{d}")
            self.assert_refused(desk, f"heap a 1xr{d + 100}", NoText)


class Asking(Checks):
    def test_area(self):
        desk = desk_with(2, a="1x1", b="1+r2x3", c="1xr2; r2x1", e="1/2x1/3; r2x1/5r2", f="-1+r2x-1+r2")
        for name, answer in (("a", "1"), ("b", "3+3r2"), ("c", "2r2"), ("e", "17/30"), ("f", "3-2r2")):
            self.assert_said(desk, f"area {name}", answer)

    def test_table(self):
        desk = desk_with(2, a="1x1", b="1+r2x3", c="1x2r2; r2x1", e="1/2x1/3; r2x1/5r2", f="-1+r2x-2+3r2")
        for name, answer in (
            ("a", "1 0 0 0"), ("b", "3 0 3 0"), ("c", "0 2 1 0"), ("e", "1/6 0 0 1/5"), ("f", "2 -3 -2 3"),
        ):
            self.assert_said(desk, f"table {name}", answer)
        self.assert_said(desk_with(3, a="1-1/2r3x-1/3+r3"), "table a", "-1/3 1 1/6 -1/2")

    def test_rank(self):
        desk = desk_with(2, a="1x1", b="1x1; r2xr2", c="1x1; r2x1", e="1xr2; r2x1")
        for name, answer in (("a", "1"), ("b", "2"), ("c", "1"), ("e", "2")):
            self.assert_said(desk, f"rank {name}", answer)

    def test_nothing_is_changed_by_asking(self):
        desk = desk_with(2, a="1x1; r2x1", b="1+r2x1", c="r2xr2; 1xr2; r2x1")
        before = all_kept(desk)
        for word, name in product(("show", "area", "table", "rank"), "abc"):
            desk.say(f"{word} {name}")
        for word, one, other in product(("like", "turned"), "abc", "abc"):
            desk.say(f"{word} {one} {other}")
        self.assertEqual(all_kept(desk), before)

    def test_like(self):
        desk = desk_with(2, a="1x1; r2x1", b="1+r2x1", c="1x1+r2", e="2x1; r2x1", f="1+r2x1; r2xr2")
        for one, other in product("ab", "ab"):
            heaps = [read_heap(2, desk.say(f"show {name}")) for name in (one, other)]
            self.assert_said(desk, f"like {one} {other}", f"plan {len(like(2, *heaps)[1])}")
        self.assert_said(desk, "like a c", "apart 0 1")
        self.assert_said(desk, "like c a", "apart 0 1")
        self.assert_said(desk, "like a e", "apart 0 0")
        self.assert_said(desk, "like a f", "apart 1 1")
        self.assert_said(desk_with(2, a="1x1; r2x1", b="1x1; r2x2"), "like a b", "apart 1 0")

    def test_turned(self):
        desk = desk_with(2, a="1x1; r2x1", b="1+r2x1", c="1x1+r2", e="2x1; r2x1", f="1xr2; r2xr2; 1x1")
        for one, other in product("abc", "abc"):
            heaps = [read_heap(2, desk.say(f"show {name}")) for name in (one, other)]
            self.assert_said(desk, f"turned {one} {other}", f"plan {len(like_turned(2, *heaps)[1])}")
        self.assert_said(desk, "turned a e", "apart 0 0")
        self.assert_said(desk, "turned a f", "apart 1 1")
        self.assert_said(desk_with(2, a="1x1; r2x1", b="1x1; r2x2"), "turned a b", "apart 0 1")


class Making(Checks):
    def test_make(self):
        for word in ("make", "maketurned"):
            desk = desk_with(2, a="1x1; r2x1", b="1+r2x1", c="1/2+1/2r2x1; 1/4x1; 1/4x1; r2x1/2")
            for one, other in (("a", "c"), ("b", "a"), ("c", "b"), ("c", "a"), ("b", "b")):
                text = desk.say(f"show {other}")
                self.assert_said(desk, f"{word} {one} {other}", "ok")
                self.assert_said(desk, f"show {one}", text)
                self.assert_said(desk, f"show {other}", text)

    def test_make_keeps_the_order_of_the_other(self):
        for d, heap in product((2, 99), some_heaps()):
            text = shown_heap(d, heap)
            desk = desk_with(d, a=shown_heap(d, heap[::-1]), b=text)
            self.assert_said(desk, "make a b", "ok")
            self.assert_said(desk, "show a", text)

    def test_make_apart(self):
        desk = desk_with(2, a="r2x1", b="1xr2", c="r2x1; 1x1", e="2x1", f="r2xr2")
        for one, other in (("a", "b"), ("b", "a"), ("a", "c"), ("c", "a"), ("e", "f"), ("f", "e")):
            self.assert_refused(desk, f"make {one} {other}", Apart)

    def test_maketurned(self):
        desk = desk_with(2, a="r2x1; 1x1", b="1x1+r2", c="1/2r2x1; 1x1/2r2; 1x1")
        for one, other in (("a", "b"), ("b", "c"), ("c", "a"), ("a", "c")):
            text = desk.say(f"show {other}")
            self.assert_said(desk, f"maketurned {one} {other}", "ok")
            self.assert_said(desk, f"show {one}", text)

    def test_maketurned_of_many_boards(self):
        for d, heap in product((2, 99), some_heaps()):
            text = shown_heap(d, turned_about(heap))
            desk = desk_with(d, a=shown_heap(d, heap), b=text)
            self.assert_said(desk, "maketurned a b", "ok")
            self.assert_said(desk, "show a", text)

    def test_maketurned_apart(self):
        desk = desk_with(2, a="r2x1", b="1x2r2", c="r2x1; 1x1", e="2x1", f="r2xr2")
        for one, other in (("a", "b"), ("b", "a"), ("a", "c"), ("c", "a"), ("e", "f"), ("f", "e")):
            self.assert_refused(desk, f"maketurned {one} {other}", Apart)

    def test_the_one_is_its_own_from_then_on(self):
        desk = desk_with(2, a="2x1", b="1x1; 1x1")
        desk.say("make a b")
        desk.say("fewest b")
        self.assert_said(desk, "show a", "1x1; 1x1")
        desk.say("drop b")
        self.assert_said(desk, "show a", "1x1; 1x1")

    def test_fewest(self):
        for text in ("1x1", "1x1; 2x1; 1/2x3", "1x1; r2xr2", "1x1; r2x1; 3x1; 1x1", "1xr2; r2x1; 5x1/2; r2xr2"):
            desk = desk_with(2, a=text, b=text)
            made = fewest(2, read_heap(2, text))[1]
            self.assert_said(desk, "fewest a", shown_heap(2, made))
            self.assert_said(desk, "show a", shown_heap(2, made))
            self.assertEqual(str(len(made)), desk.say("rank b"))
            self.assertEqual(desk.say("table a"), desk.say("table b"))
            self.assert_said(desk, "show b", text)

    def test_board(self):
        desk = desk_with(2, a="1x1; 2x1", b="1x1; r2x1", c="1x1; r2xr2")
        self.assert_said(desk, "board a 1/2", "1/2x6")
        self.assert_said(desk, "show a", "1/2x6")
        self.assert_said(desk, "board a 12", "12x1/4")
        self.assert_said(desk, "board b 1/3+1/3r2", "1/3+1/3r2x3")
        self.assert_said(desk, "show b", "1/3+1/3r2x3")
        for row in ("board a r2", "board a 1+r2", "board b 1", "board b r2", "board b -1+r2", "board c 1", "board c r2"):
            self.assert_refused(desk, row, Apart)

    def test_squares(self):
        desk = desk_with(2, a="3x2", b="1x1; r2xr2", c="-1+r2x-1+r2", e="3x1; r2x1/2r2")
        for name, text in (
            ("a", "; ".join(["1x1"] * 6)), ("b", "1x1; r2xr2"), ("c", "-1+r2x-1+r2"),
            ("e", "1x1; 1x1; 1x1; 1/2r2x1/2r2; 1/2r2x1/2r2"),
        ):
            self.assert_said(desk, f"squares {name}", text)
            self.assert_said(desk, f"show {name}", text)

    def test_no_squares(self):
        desk = desk_with(2, a="r2x1", b="1xr2; r2x1", c="-1+r2x1+r2; 1+r2x-1+r2", e="1x1; 1xr2; r2x1; r2x1/2r2")
        before = all_kept(desk)
        self.assert_said(desk, "squares a", "uneven")
        for name in "bce":
            answer = desk.say(f"squares {name}")
            heap = read_heap(2, before[name])
            measure = squares(2, heap)[1]
            written = ["/".join([str(top), str(bottom)]) if bottom > 1 else str(top) for top, bottom in measure]
            self.assertEqual(answer, " ".join(["below"] + written))
            self.assertLess(worth(measure, measure, table(heap))[0], 0)
        self.assertEqual(all_kept(desk), before)

    def test_the_measure_s_fractions(self):
        desk = desk_with(2, a="1/3x1/5; r2x1/7; 1/7xr2")
        answer = desk.say("squares a").split(" ")
        measure = squares(2, read_heap(2, desk.say("show a")))[1]
        self.assertEqual(len(answer), 3)
        self.assertIn("/", "".join(answer))
        self.assertEqual([tuple(int(part) for part in (word + "/1").split("/")[:2]) for word in answer[1:]], list(measure))

    def test_too_many_squares(self):
        desk = desk_with(2, a="401x1", b="400x1", c="200x1; 201r2xr2")
        self.assert_refused(desk, "squares a", TooMany)
        self.assert_refused(desk, "squares c", TooMany)
        self.assert_said(desk, "squares b", "; ".join(["1x1"] * 400))


class Refusals(Checks):
    def setUp(self):
        self.desk = desk_with(2, a="1x1; r2x1", b="1+r2x1", c="1xr2")

    def test_no_text(self):
        for thing in no_wholes() + [1, 0, ["names"], ("names",), {"names": 1}, b"names", Prickly()]:
            if type(thing) is not str:
                self.assert_refused(self.desk, thing, NoRow)

    def test_no_such_row(self):
        for row in (
            "", " ", "  ", "x", "Names", "NAMES", "name", "namess", "shows a", "sho a", "a", "a b c", "\tnames", "names\n",
            "show\ta", "maketurn a b", "boards a 1", "square a", "ok", "-", "drop,a", "heapa 1x1", "heaps a 1x1", "HEAP a 1x1",
        ):
            self.assert_refused(self.desk, row, NoRow)

    def test_too_few_or_too_many_words(self):
        self.assert_refused(self.desk, "names a", NoRow)
        for word in ONE_NAME:
            for row in (word, f"{word} a b", f"{word} a b c", f"{word} ? ?"):
                self.assert_refused(self.desk, row, NoRow)
        for word in TWO_NAMES + ["board"]:
            for row in (word, f"{word} a", f"{word} a b c", f"{word} a 1 1", f"{word} ?", f"{word} ? ? ?"):
                self.assert_refused(self.desk, row, NoRow)
        for row in ("heap", "heap a", "heap ?", "heap abcdefghi", "heap 1x1"):
            self.assert_refused(self.desk, row, NoRow)

    def test_words_without_signs_are_counted(self):
        self.assert_refused(self.desk, "names ", NoRow)
        for word in WORDS:
            self.assert_refused(self.desk, f" {word} a b", NoRow)
            self.assert_refused(self.desk, f" {word} a", NoRow)
            self.assert_refused(self.desk, f" {word}", NoRow)
        for word in ONE_NAME:
            # One word without signs where a name must be, then two words.
            self.assert_refused(self.desk, f"{word} ", NoName)
            for row in (f"{word}  ", f"{word}  a", f"{word} a "):
                self.assert_refused(self.desk, row, NoRow)
        for word in TWO_NAMES:
            for row in (f"{word}  ", f"{word}  a", f"{word} a "):
                self.assert_refused(self.desk, row, NoName)
            for row in (f"{word} ", f"{word}  a b", f"{word} a  b", f"{word} a b "):
                self.assert_refused(self.desk, row, NoRow)
        self.assert_refused(self.desk, "board  1", NoName)
        self.assert_refused(self.desk, "board  ", NoName)
        self.assert_refused(self.desk, "board a ", NoText)
        for row in ("board ", "board a  1", "board  a 1", "board a 1 "):
            self.assert_refused(self.desk, row, NoRow)

    def test_blanks_in_heap(self):
        for row in ("heap ", "heap a", "heap"):
            self.assert_refused(self.desk, row, NoRow)
        for row in ("heap  ", "heap  1x1", "heap  a 1x1", "heap  1x1; 1x1"):
            self.assert_refused(self.desk, row, NoName)
        for row in ("heap a ", "heap e ", "heap a  ", "heap a  1x1", "heap a 1x1 ", "heap a 1x1;  1x1", "heap a 1x1 1x1"):
            self.assert_refused(self.desk, row, NoText)

    def test_no_name(self):
        for name in (
            "", "A", "aB", "a1", "1", "a_b", "a-b", "abcdefghi", "a" * 9, "a" * 15000, "\u00e4", "\u00df", "\u0430",
            "a\n", "\ta", "a;", "?", "-",
        ):
            self.assert_refused(self.desk, f"heap {name} 1x1", NoName)
            self.assert_refused(self.desk, f"board {name} 1", NoName)
            for word in ONE_NAME:
                self.assert_refused(self.desk, f"{word} {name}", NoName)
            for word in TWO_NAMES:
                self.assert_refused(self.desk, f"{word} a {name}", NoName)
                self.assert_refused(self.desk, f"{word} {name} a", NoName)

    def test_names_not_kept(self):
        for word in ONE_NAME:
            self.assert_refused(self.desk, f"{word} e", NoName)
        for word, (one, other) in product(TWO_NAMES, (("a", "e"), ("e", "a"), ("e", "e"), ("e", "f"))):
            self.assert_refused(self.desk, f"{word} {one} {other}", NoName)
        self.assert_refused(self.desk, "board e 1", NoName)

    def test_texts_that_write_nothing(self):
        for text in (
            "", "x", "1", "1x", "x1", "1x1x1", "1x1;1x1", "1x1; ", "; 1x1", "0x1", "1x0", "-1x1", "1x-1", "1-r2x1", "1xr3",
            "1Xr2", "01x1", "2/4x1", "1/1x1", "+1x1", "1x1+1r2", "1.5x1", "1 x1", "1x1 ; 1x1", "\u0661x1", "1x1\n", "a",
        ):
            self.assert_refused(self.desk, f"heap a {text}", NoText)
            self.assert_refused(self.desk, f"heap e {text}", NoText)

    def test_widths_that_are_none(self):
        for text in ("", "x", "a", "1x1", "r3", "2/4", "01", "+1", "1/0", "1+1r2", "r2+1", "--1", "-0", "1\n", "\u0661"):
            self.assert_refused(self.desk, f"board a {text}", NoText)

    def test_widths_not_above_nought(self):
        for text in ("0", "-1", "-1/2", "-r2", "1-r2", "-2+r2", "-1-r2", f"-{LONG}"):
            self.assert_refused(self.desk, f"board a {text}", NoBoard)
            self.assert_refused(self.desk, f"board c {text}", NoBoard)

    def test_what_comes_first(self):
        for row, error in (
            ("heap A x", NoName), ("heap a x", NoText), ("heap A", NoRow),
            ("board e x", NoName), ("board E 0", NoName), ("board a x", NoText), ("board c -1", NoBoard), ("board c 2r2", Apart),
            ("make e a", NoName), ("make a e", NoName), ("make a c", Apart), ("make a c ", NoRow), ("maketurned a c", Apart),
            ("show A B", NoRow), ("rows A", NoRow),
        ):
            self.assert_refused(self.desk, row, error)


class Whole(Checks):
    def test_a_talk(self):
        desk = Desk(2)
        for row, answer in (
            ("names", "-"), ("heap top 1+r2x1; r2x3", "ok"), ("area top", "1+4r2"), ("table top", "1 0 4 0"), ("rank top", "1"),
            ("heap leg 1x1; r2x4", "ok"), ("make top leg", "ok"), ("show top", "1x1; r2x4"), ("board top 1/2+2r2", "1/2+2r2x2"),
            ("like top leg", None), ("squares top", "uneven"), ("heap seat 4x4r2; 1x1", "ok"), ("turned top seat", "apart 0 1"),
            ("heap seat 1x4r2; 1x1", "ok"), ("like top seat", "apart 0 1"), ("turned top seat", None), ("maketurned seat top", "ok"),
            ("show seat", "1/2+2r2x2"), ("names", "leg seat top"), ("drop leg", "ok"), ("names", "seat top"),
        ):
            if answer is None:
                self.assertRegex(desk.say(row), "^plan [1-9][0-9]*$")
            else:
                self.assert_said(desk, row, answer)

    def test_great_texts(self):
        # Rows of nearly 20000 signs, and what comes of them shown and read again.
        chance = random.Random(51)
        heap = []
        for many in range(6):
            numbers = [chance.randrange(10 ** 398, 10 ** 399) for sides in range(6)]
            heap.append((length(*numbers[:3]), length(*numbers[3:])))
        text = shown_heap(2, heap)
        self.assertTrue(19000 < len(text) < 20000)
        desk = desk_with(2, a=text, b=text)
        self.assert_said(desk, "show a", text)
        for row in ("area a", "table a", "rank a", "like a b", "turned a b", "squares a"):
            self.assertNotEqual(desk.say(row), "")
        made = desk.say("fewest a")
        self.assertEqual(made.count("; "), 1)
        self.assert_said(desk, f"heap c {made}", "ok")
        self.assert_said(desk, "make b c", "ok")
        self.assert_said(desk, "show b", made)

    def test_long_rows_that_are_none(self):
        desk = desk_with(2, a="1x1")
        self.assert_refused(desk, "x" * 20000, NoRow)
        self.assert_refused(desk, " " * 20000, NoRow)
        self.assert_refused(desk, "show " + "a " * 9000, NoRow)
        self.assert_refused(desk, "show " + "a" * 19000, NoName)
        self.assert_refused(desk, "heap a " + "1x1; " * 3900, NoText)
        self.assert_refused(desk, "heap a " + "9" * 19000, NoText)
        self.assert_refused(desk, "board a " + "9" * 19000 + "r2", Apart)


if __name__ == "__main__":
    unittest.main()
