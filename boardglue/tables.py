"""Fractions reckoned with, the tables of heaps, and what measures make of them."""

from boardglue.lengths import by_parts, common_divisor, fraction, parts

EMPTY = (((0, 1), (0, 1)), ((0, 1), (0, 1)))


def plus(one, other):
    # Both are in lowest terms, so only what their bottoms share can be left to
    # divide out: a great sum and a small fraction are soon added.
    shared = common_divisor(one[1], other[1])
    top = one[0] * (other[1] // shared) + other[0] * (one[1] // shared)
    left = common_divisor(top, shared)
    return (top // left, one[1] // shared * (other[1] // left))


def minus(one, other):
    return plus(one, (-other[0], other[1]))


def times(one, other):
    # Likewise a top has only the other one's bottom to be cleared of.
    first = common_divisor(one[0], other[1])
    second = common_divisor(other[0], one[1])
    return (one[0] // first * (other[0] // second), one[1] // second * (other[1] // first))


def by(one, other):
    return times(one, fraction(other[1], other[0]))


def is_less(one, other):
    return one[0] * other[1] < other[0] * one[1]


def table(heap):
    whole = EMPTY
    for one in heap:
        whole = together(whole, board_table(one))
    return whole


def board_table(one):
    widths = parts(one[0])
    heights = parts(one[1])
    return (
        (times(widths[0], heights[0]), times(widths[0], heights[1])),
        (times(widths[1], heights[0]), times(widths[1], heights[1])),
    )


def over(one):
    return ((one[0][0], one[1][0]), (one[0][1], one[1][1]))


def together(one, other):
    return (
        (plus(one[0][0], other[0][0]), plus(one[0][1], other[0][1])),
        (plus(one[1][0], other[1][0]), plus(one[1][1], other[1][1])),
    )


def less(one, other):
    return (
        (minus(one[0][0], other[0][0]), minus(one[0][1], other[0][1])),
        (minus(one[1][0], other[1][0]), minus(one[1][1], other[1][1])),
    )


def slant(one):
    # What the first place times the last one is above the two others times one
    # another, timed by all four bottoms: only its sign is asked, and lowest
    # terms would be long to find for great numbers.
    straight = one[0][0][0] * one[1][1][0] * one[0][1][1] * one[1][0][1]
    across = one[0][1][0] * one[1][0][0] * one[0][0][1] * one[1][1][1]
    return straight - across


def area(d, one):
    without_root = plus(one[0][0], times((d, 1), one[1][1]))
    with_root = plus(one[0][1], one[1][0])
    return by_parts(without_root, with_root)


def measured(measure, one):
    return weighed(measure, parts(one))


def weighed(measure, pair):
    return plus(times(measure[0], pair[0]), times(measure[1], pair[1]))


def worth(first, second, one):
    return weighed(first, (weighed(second, one[0]), weighed(second, one[1])))
