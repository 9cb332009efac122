"""Squares: a board cut into them, and a heap made into them, or a measure by which it can't be."""

from boardglue.errors import TooMany
from boardglue.lengths import NOUGHT, by_parts, length, parted, taken, under
from boardglue.likes import like
from boardglue.normal import times_over
from boardglue.plans import followed
from boardglue.tables import by, minus, over, plus, slant, table, times

MOST = 400
ROOT = (0, 1, 1)


def strips(width, height):
    # Tuples (cut, side, many): so many squares of one side, each by this cut.
    found = []
    room = MOST
    while width > 0 and height > 0:
        if width < height:
            strip = ("along", width, height // width)
            height = height % width
        else:
            strip = ("across", height, width // height)
            width = width % height
        room = room - strip[2]
        # A strip may be of more squares than could ever be listed, so they are counted first.
        if room < 0:
            raise TooMany("there would be too many squares")
        found.append(strip)
    return found


def cuts(d, one):
    # Both sides are so many times a unit: then whole numbers tell the squares.
    ratio = parted(d, one[0], one[1])
    unit = length(one[1][0], one[1][1], one[1][2] * ratio[2])
    found = []
    for word, side, many in strips(ratio[0], ratio[2]):
        found.extend([(word, times_over(d, side, unit))] * many)
    return found


def squares_of(d, board):
    return [(cut[1], cut[1]) for cut in cuts(d, board)]


def cutting(d, boards, places):
    deeds = []
    unused = len(boards)
    for place, one in zip(places, boards):
        # By its new name a board lies behind the squares that are there, even if it is one itself.
        deeds.append(("stack", place, 1))
        rest = unused
        unused = unused + 1
        # The last square is what the cuts leave.
        for cut in cuts(d, one)[:-1]:
            deeds.append((cut[0], rest, cut[1]))
            rest = unused + 1
            unused = unused + 2
    return deeds


def measure_below(whole):
    first = whole[0][0]
    second = whole[0][1]
    last = whole[1][1]
    if first[0] < 0:
        return ((1, 1), (0, 1))
    if first[0] == 0 and second[0] != 0:
        # By f and g it is worth 2 * second * f * g and last * g * g: so -4 times
        # the second place's square.
        return (minus((-1, 1), last), plus(second, second))
    if slant(whole) < 0:
        # Worth the first place times (first * last - second * second).
        return (minus((0, 1), second), first)
    # Where both are 0 the last place is above 0, for the area is.
    return None


def side_by_side(d, whole):
    # Two boards at most, each a fraction times as wide as high, that have this table together.
    first = whole[0][0]
    second = whole[0][1]
    if first[0] == 0:
        return [(by_parts((0, 1), whole[1][1]), ROOT)]
    share = by(second, first)
    one = (by_parts(first, second), by_parts((1, 1), share))
    if under(d, one[1], NOUGHT):
        one = (taken(NOUGHT, one[0]), taken(NOUGHT, one[1]))
    left = minus(whole[1][1], times(second, share))
    if left[0] == 0:
        return [one]
    return [one, (by_parts((0, 1), left), ROOT)]


def squares(d, heap):
    whole = table(heap)
    if whole != over(whole):
        return ("uneven",)
    measure = measure_below(whole)
    if measure is not None:
        return ("below", measure)
    boards = side_by_side(d, whole)
    told = []
    for one in boards:
        told.extend(squares_of(d, one))
    if len(told) > MOST:
        raise TooMany("there would be too many squares")
    made = like(d, heap, boards)
    return ("squares", followed(len(heap), made[1], cutting(d, boards, made[2])), told)
