"""Boards, tuples (width, height) of two lengths above 0, and heaps, lists of boards."""

from boardglue.errors import NoBoard
from boardglue.lengths import NOUGHT, is_whole, length, under


def is_length(thing):
    if not isinstance(thing, tuple) or len(thing) != 3:
        return False
    # Kinds come first: True equals 1, and so would slip through the last row.
    if not all([is_whole(number) for number in thing]) or thing[2] < 1:
        return False
    return length(thing[0], thing[1], thing[2]) == thing


def is_side(d, thing):
    return is_length(thing) and under(d, NOUGHT, thing)


def is_board(d, thing):
    if not isinstance(thing, tuple) or len(thing) != 2:
        return False
    return is_side(d, thing[0]) and is_side(d, thing[1])


def board(d, width, height):
    made = (width, height)
    if not is_board(d, made):
        raise NoBoard("a board has two lengths above 0 for sides")
    return made


def is_heap(d, thing):
    if not isinstance(thing, list) or len(thing) == 0:
        return False
    return all([is_board(d, one) for one in thing])
