"""Bases: two lengths, of which every length whose bottom divides a number is made by whole counts."""

from boardglue.lengths import common_divisor, length, taken, under


def first_base(d, n):
    return (length(0, 1, n), length(1, 0, n))


def next_base(d, base):
    p = base[0]
    q = base[1]
    # They are never alike, for no fraction is root d.
    if under(d, q, p):
        return (taken(p, q), q)
    return (p, taken(q, p))


def crossed(one, other):
    return one[0] * other[1] - one[1] * other[0]


def counts(d, base, one):
    # Two parts make two equations: their crossed parts solve them.
    p = base[0]
    q = base[1]
    bottom = one[2] * crossed(p, q)
    return (crossed(one, q) * p[2] // bottom, crossed(p, one) * q[2] // bottom)


def common_bottom(lengths):
    bottom = 1
    for one in lengths:
        bottom = bottom // common_divisor(bottom, one[2]) * one[2]
    return bottom


def serving(d, lengths):
    # Bottoms change no count's sign, so the row is walked without them: the
    # number that all of them divide may be very great.
    base = first_base(d, 1)
    for one in lengths:
        tops = (one[0], one[1], 1)
        # Each next base only adds counts to one another, so it serves all that
        # this one serves, and no length need be looked at twice.
        while min(counts(d, base, tops)) < 0:
            base = next_base(d, base)
    bottom = common_bottom(lengths)
    return tuple([length(side[0], side[1], bottom) for side in base])
