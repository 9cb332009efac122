"""The desk: heaps kept by names, and rows of words, each answered with a text."""

from boardglue.boards import is_side
from boardglue.errors import Apart, NoBoard, NoName, NoRow
from boardglue.fewest import fewest, one_board, rank
from boardglue.likes import like
from boardglue.notes import read_heap, read_length, shown_fraction, shown_heap, shown_length
from boardglue.plans import walked
from boardglue.squares import squares
from boardglue.tables import area, table
from boardglue.turns import like_turned

BLANK = " "
DONE = "ok"
NO_NAMES = "-"
LETTERS = "abcdefghijklmnopqrstuvwxyz"
MOST_LETTERS = 8
# By each first word, how many words its row has.
WORDS = {
    "names": 1,
    "drop": 2, "show": 2, "area": 2, "table": 2, "rank": 2, "fewest": 2, "squares": 2,
    "heap": 3, "board": 3, "like": 3, "turned": 3, "make": 3, "maketurned": 3,
}
ASKING = ("show", "area", "table", "rank")
COMPARING = ("like", "turned")
MAKING = ("make", "maketurned")
TURNING = ("turned", "maketurned")


def words_of(row):
    if not isinstance(row, str):
        raise NoRow("a row is a text")
    words = row.split(BLANK)
    if words[0] == "heap":
        # A heap's text has blanks of its own, so all that follows is one word.
        words = row.split(BLANK, 2)
    if words[0] not in WORDS:
        raise NoRow("no row begins so")
    if len(words) != WORDS[words[0]]:
        raise NoRow("the row has too few or too many words")
    return words


def check_name(word):
    if len(word) < 1 or len(word) > MOST_LETTERS or not all([sign in LETTERS for sign in word]):
        raise NoName("a name is one to eight small letters")


def read_width(d, text):
    width = read_length(d, text)
    if not is_side(d, width):
        raise NoBoard("a width is above 0")
    return width


def asked(d, word, heap):
    if word == "show":
        return shown_heap(d, heap)
    if word == "rank":
        return str(rank(heap))
    whole = table(heap)
    if word == "area":
        return shown_length(d, area(d, whole))
    return BLANK.join([shown_fraction(place) for place in whole[0] + whole[1]])


def compared(d, word, one, other):
    return like_turned(d, one, other) if word in TURNING else like(d, one, other)


def shown_verdict(told):
    if told[0] == "plan":
        return BLANK.join(["plan", str(len(told[1]))])
    return BLANK.join(["apart", str(told[1]), str(told[2])])


def made_like(d, one, told):
    if told[0] == "apart":
        raise Apart("the one heap can't be made into the other one")
    # Whether there may be turnings was settled when the plan was told.
    end = walked(d, one, told[1], True)
    return [end[place] for place in told[2]]


def only_board(d, heap, width):
    told = one_board(d, heap, width)
    if told is None:
        raise Apart("the heap can't be made into one board of this width")
    return told[1]


def shown_no_squares(told):
    if told[0] == "uneven":
        return "uneven"
    return BLANK.join(["below", shown_fraction(told[1][0]), shown_fraction(told[1][1])])


class Desk:
    def __init__(self, d):
        self.root = d
        self.kept = {}

    def say(self, row):
        words = words_of(row)
        word = words[0]
        if word == "names":
            return BLANK.join(sorted(self.kept)) if len(self.kept) > 0 else NO_NAMES
        if word == "heap":
            return self.take_in(words[1], words[2])
        heap = self.heap_called(words[1])
        if word == "drop":
            self.kept.pop(words[1])
            return DONE
        if word in ASKING:
            return asked(self.root, word, heap)
        if word in COMPARING:
            return shown_verdict(compared(self.root, word, heap, self.heap_called(words[2])))
        if word in MAKING:
            told = compared(self.root, word, heap, self.heap_called(words[2]))
            self.kept[words[1]] = made_like(self.root, heap, told)
            return DONE
        return self.remake(words, heap)

    def heap_called(self, name):
        # What is no name is never kept.
        if name not in self.kept:
            raise NoName("no heap is kept by this name")
        return self.kept[name]

    def take_in(self, name, text):
        check_name(name)
        self.kept[name] = read_heap(self.root, text)
        return DONE

    def remake(self, words, heap):
        if words[0] == "fewest":
            made = fewest(self.root, heap)[1]
        elif words[0] == "board":
            made = [only_board(self.root, heap, read_width(self.root, words[2]))]
        else:
            told = squares(self.root, heap)
            if told[0] != "squares":
                return shown_no_squares(told)
            made = told[2]
        self.kept[words[1]] = made
        return shown_heap(self.root, made)
