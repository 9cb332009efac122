"""Texts of fractions, lengths and heaps, and lengths and heaps read from texts."""

from boardglue.boards import is_board
from boardglue.errors import NoText
from boardglue.lengths import by_parts, fraction, parts

FIGURES = "0123456789"
PARTING = "; "
# Python turns only numbers of some thousand figures into texts and back at once,
# so longer ones go piece by piece.
PIECE_FIGURES = 18
PIECE = 1000000000000000000


def shown_whole(number):
    pieces = []
    left = abs(number)
    while left >= PIECE:
        pieces.append(str(left % PIECE).zfill(PIECE_FIGURES))
        left = left // PIECE
    pieces.append(str(left))
    pieces.reverse()
    return ("-" if number < 0 else "") + "".join(pieces)


def shown_fraction(one):
    top = shown_whole(one[0])
    if one[1] == 1:
        return top
    bottom = shown_whole(one[1])
    return f"{top}/{bottom}"


def shown_rooted(d, one):
    # A part of 1 is left out, of one below 0 its stroke stays.
    if one == (1, 1):
        return f"r{d}"
    if one == (-1, 1):
        return f"-r{d}"
    many = shown_fraction(one)
    return f"{many}r{d}"


def shown_length(d, one):
    both = parts(one)
    if both[1][0] == 0:
        return shown_fraction(both[0])
    rooted = shown_rooted(d, both[1])
    if both[0][0] == 0:
        return rooted
    joint = "+" if both[1][0] > 0 else ""
    return shown_fraction(both[0]) + joint + rooted


def shown_board(d, one):
    width = shown_length(d, one[0])
    height = shown_length(d, one[1])
    return f"{width}x{height}"


def shown_heap(d, heap):
    return PARTING.join([shown_board(d, one) for one in heap])


def read_whole(text):
    # Only these ten signs: Python takes the figures of other scripts too.
    if text == "" or not all([sign in FIGURES for sign in text]):
        raise NoText("a number is written with figures")
    first = len(text) % PIECE_FIGURES
    number = int("0" + text[:first])
    for place in range(first, len(text), PIECE_FIGURES):
        number = number * PIECE + int(text[place:place + PIECE_FIGURES])
    return number


def read_fraction(text):
    if text.startswith("-"):
        high = read_fraction_above(text[1:])
        return (-high[0], high[1])
    return read_fraction_above(text)


def read_fraction_above(text):
    if "/" not in text:
        return (read_whole(text), 1)
    halves = text.partition("/")
    bottom = read_whole(halves[2])
    if bottom == 0:
        raise NoText("nothing is divided by 0")
    return fraction(read_whole(halves[0]), bottom)


def read_rooted(text):
    # What stands ahead of the root's sign: a sign, figures, both or neither.
    high = text[1:] if text.startswith(("+", "-")) else text
    many = (1, 1) if high == "" else read_fraction_above(high)
    return (-many[0], many[1]) if text.startswith("-") else many


def read_both_parts(d, text):
    if "r" not in text:
        return (read_fraction(text), (0, 1))
    halves = text.partition("r")
    if halves[2] != str(d):
        raise NoText("another root is written")
    joint = max(halves[0].rfind("+"), halves[0].rfind("-"))
    if joint < 1:
        return ((0, 1), read_rooted(halves[0]))
    return (read_fraction(halves[0][:joint]), read_rooted(halves[0][joint:]))


def read_length(d, text):
    if not isinstance(text, str):
        raise NoText("a length is read from a text")
    both = read_both_parts(d, text)
    one = by_parts(both[0], both[1])
    # Each length has one text alone, so whatever is written otherwise (noughts
    # ahead, terms not the lowest, a sign too many) comes out as another text.
    if shown_length(d, one) != text:
        raise NoText("a length is written in one way alone")
    return one


def read_board(d, text):
    sides = text.split("x")
    if len(sides) != 2:
        raise NoText("a board is written with two sides")
    one = (read_length(d, sides[0]), read_length(d, sides[1]))
    if not is_board(d, one):
        raise NoText("the sides of a board are above 0")
    return one


def read_heap(d, text):
    if not isinstance(text, str):
        raise NoText("a heap is read from a text")
    return [read_board(d, one) for one in text.split(PARTING)]
