"""Heaps that are made into one another where boards may be turned: one turning is always enough."""

from boardglue.bases import first_base, next_base
from boardglue.lengths import floor_of, parted, timed, under
from boardglue.likes import first_unlike, like
from boardglue.normal import times_over
from boardglue.plans import followed, walked
from boardglue.tables import minus, over, table, together

ONE = (1, 0, 1)


def plain_within(d, one):
    # A fraction of few figures, not above the length, and above half of it.
    whole = floor_of(d, one)
    if whole > 0:
        return (whole, 0, 1)
    return (1, 0, floor_of(d, parted(d, ONE, one)) + 1)


def piece_to_turn(d, one, gap):
    # A piece of the board that, turned, adds the gap to the table's second place
    # and takes it from the third one. For p by q of a base of n = 1 the gap is
    # 1, for q by p -1, and further bases are as small as one likes.
    size = (abs(gap[0]), 0, gap[1])
    room = plain_within(d, parted(d, timed(d, one[0], one[1]), times_over(d, 4, size)))
    base = first_base(d, 1)
    while not under(d, timed(d, base[0], base[1]), room):
        base = next_base(d, base)
    sides = base if gap[0] > 0 else (base[1], base[0])
    # The piece is at most half as wide as the board, and more than a quarter as
    # wide: so it has room, and by the area it is less high than the board.
    share = plain_within(d, parted(d, one[0], times_over(d, 2, sides[0])))
    return (timed(d, share, sides[0]), timed(d, parted(d, size, share), sides[1]))


def turning_deeds(d, heap, gap):
    piece = piece_to_turn(d, heap[0], gap)
    fresh = len(heap)
    return [("across", 0, piece[0]), ("along", fresh, piece[1]), ("turn", fresh + 2)]


def like_turned(d, one, other):
    mine = table(one)
    theirs = table(other)
    place = first_unlike(together(mine, over(mine)), together(theirs, over(theirs)))
    if place is not None:
        return ("apart", place[0], place[1])
    gap = minus(theirs[0][1], mine[0][1])
    if gap[0] == 0:
        return like(d, one, other)
    deeds = turning_deeds(d, one, gap)
    told = like(d, walked(d, one, deeds, True), other)
    return ("plan", followed(len(one), deeds, told[1]), told[2])
