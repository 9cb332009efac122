"""Inputs that several test files share."""

import decimal
import fractions
from math import isqrt

ROOTS = [d for d in range(2, 100) if isqrt(d) ** 2 != d]


class Prickly:
    """A thing that fails on whatever is asked of it but its class."""

    def refuse(self, *things):
        raise RuntimeError("asked of a thing of another kind")

    __eq__ = __ne__ = __lt__ = __gt__ = __le__ = __ge__ = __len__ = __bool__ = refuse
    __int__ = __index__ = __iter__ = __getitem__ = __hash__ = __mod__ = __abs__ = refuse


def no_wholes():
    """Things of many kinds, none of them a whole number."""
    return [
        True, False, None, "", "1", "x", b"1", 0.0, 1.0, 2.5, float("nan"), float("inf"), 1j,
        fractions.Fraction(2), decimal.Decimal(2), [], [1], (), (1,), (1, 0, 1), {}, {1: 1},
        {1}, frozenset([1]), range(3), object(), int, len, Prickly(),
    ]


def near_misses(d, figures):
    """Pairs (p, q), q of up to that many figures, with p as near to q * root of d as can be."""
    # The continued fraction of root d; its convergents lie by turns below and above.
    whole = isqrt(d)
    m, step, term = 0, 1, whole
    last, now = (1, 0), (whole, 1)
    found = []
    while now[1] < 10 ** figures:
        found.append(now)
        m = step * term - m
        step = (d - m * m) // step
        term = (whole + m) // step
        last, now = now, (term * now[0] + last[0], term * now[1] + last[1])
    return found
