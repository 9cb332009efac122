"""The fewest boards that a heap can be made into, and whether one board of a told width is enough."""

from boardglue.bases import serving
from boardglue.lengths import NOUGHT, by_parts, common_divisor, parts, under
from boardglue.likes import like
from boardglue.normal import normal_heap, normal_plan
from boardglue.tables import by, slant, table


def rank(heap):
    return 1 if slant(table(heap)) == 0 else 2


def fewest(d, heap):
    least = rank(heap)
    if len(heap) == least:
        return ([], list(heap))
    if least == 1:
        made = one_board(d, heap, plain_width(d, table(heap)))
        return (made[0], [made[1]])
    base = serving(d, [one[0] for one in heap])
    return (normal_plan(d, heap, base), normal_heap(d, heap, base))


def plain_width(d, whole):
    # The columns of one board's table are its width, each so many times; one of
    # them may be 0. Of all that lie along it, the least with whole parts is taken.
    column = 0 if whole[0][0][0] != 0 or whole[1][0][0] != 0 else 1
    width = by_parts(whole[0][column], whole[1][column])
    many = common_divisor(width[0], width[1])
    if under(d, width, NOUGHT):
        many = -many
    return (width[0] // many, width[1] // many, 1)


def height_by(whole, width):
    # The rows of one board's table are its height, each so often as a part of the width tells.
    many = parts(width)
    row = 0 if many[0][0] != 0 else 1
    return by_parts(by(whole[row][0], many[row]), by(whole[row][1], many[row]))


def one_board(d, heap, width):
    made = (width, height_by(table(heap), width))
    told = like(d, heap, [made])
    # Areas are alike where tables are, so by a width above 0 such a height is above 0 too.
    return (told[1], made) if told[0] == "plan" else None
