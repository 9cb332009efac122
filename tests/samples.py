"""Inputs that several test files share."""

import decimal
from fractions import Fraction
from itertools import product
from math import gcd, isqrt

LONG = 10 ** 399 + 7
ROOTS = [d for d in range(2, 100) if isqrt(d) ** 2 != d]
NO_TURNS = ("across", "along", "beside", "atop", "stack", "spread")
DEEDS = NO_TURNS + ("turn",)


class Prickly:
    """A thing that fails on whatever is asked of it but its class."""

    def refuse(self, *things):
        raise RuntimeError("asked of a thing of another kind")

    __eq__ = __ne__ = __lt__ = __gt__ = __le__ = __ge__ = __len__ = __bool__ = refuse
    __int__ = __index__ = __iter__ = __getitem__ = __hash__ = __mod__ = __abs__ = refuse


def no_wholes():
    """Things of many kinds, none of them a whole number."""
    return [
        True, False, None, "", "1", "x", b"1", 0.0, 1.0, 2.5, float("nan"), float("inf"), 1j,
        Fraction(2), decimal.Decimal(2), [], [1], (), (1,), (1, 0, 1), {}, {1: 1},
        {1}, frozenset([1]), range(3), object(), int, len, Prickly(),
    ]


def no_lengths():
    """Things of many kinds that are no lengths, though many come near."""
    near = [
        (2, 0, 2), (2, 4, 6), (0, 0, 2), (0, 3, 3), (-2, 2, 2), (LONG, LONG, LONG), (1, 0, 0), (0, 0, 0),
        (1, 0, -1), (-1, -1, -1), (0, 0, -1), (1, 2, -3), (True, 0, 1), (1, False, 1), (1, 0, True), (0, True, 1),
        ("1", 0, 1), (1, "0", 1), (1, 0, "1"), (None, 0, 1), (1, None, 1), (1, 0, None), (1.0, 0, 1), (1, 0, 1.0),
        (1, 0, [1]), ((1,), 0, 1), (Prickly(), 0, 1), (1, Prickly(), 1), (1, 0, Prickly()), [1, 0, 1], [],
        (), (1,), (1, 1), (1, 0), (1, 0, 1, 1), (1, 0, 1, 0), ((1, 0, 1),), ((1, 0, 1), (1, 0, 1)), "101", b"101",
        {1: 0, 0: 1, 2: 1}, 1, 0, -1,
    ]
    return near + [thing for thing in no_wholes() if thing.__class__ is not tuple]


def small_lengths():
    triples = product(range(-3, 4), range(-3, 4), range(1, 5))
    return [one for one in triples if gcd(*one) == 1]


def some_lengths():
    """Of every sign, with and without a second part, some of them of four hundred figures."""
    return [
        (0, 0, 1), (1, 0, 1), (-1, 0, 1), (0, 1, 1), (0, -1, 1), (1, 1, 2), (1, -1, 2), (-3, 2, 7), (5, 3, 4),
        (-5, -3, 6), (7, -5, 12), (2, 0, 3), (0, -4, 9), (LONG, -LONG + 2, 3), (1, LONG, LONG + 1), (-LONG, 3, 10),
    ]


def pair(one):
    """A length as two fractions of Python's own."""
    return (Fraction(one[0], one[2]), Fraction(one[1], one[2]))


def as_length(f, g):
    bottom = f.denominator * g.denominator // gcd(f.denominator, g.denominator)
    return (int(f * bottom), int(g * bottom), bottom)


def sign(d, one):
    """-1, 0 or 1, told by enclosing root d between whole numbers at a fine enough scale."""
    f, g = pair(one)
    if g == 0:
        return (f > 0) - (f < 0)
    scale = 10 ** 10
    while True:
        low = Fraction(isqrt(d * scale * scale), scale)
        ends = sorted([f + g * low, f + g * (low + Fraction(1, scale))])
        if ends[0] > 0 or ends[1] < 0:
            return 1 if ends[0] > 0 else -1
        scale = scale * scale


def near_misses(d, figures):
    """Pairs (p, q), q of up to that many figures, with p as near to q * root of d as can be."""
    # The continued fraction of root d; its convergents lie by turns below and above.
    whole = isqrt(d)
    m, step, term = 0, 1, whole
    last, now = (1, 0), (whole, 1)
    found = []
    while now[1] < 10 ** figures:
        found.append(now)
        m = step * term - m
        step = (d - m * m) // step
        term = (whole + m) // step
        last, now = now, (term * now[0] + last[0], term * now[1] + last[1])
    return found


def some_heaps():
    """Heaps of boards that are boards by root 2, and by every greater one."""
    return [
        [((1, 0, 1), (1, 0, 1))],
        [((0, 1, 1), (1, 0, 1)), ((1, 0, 1), (0, 1, 1))],
        [((1, 1, 2), (3, 0, 4)), ((-1, 1, 1), (5, 2, 6)), ((1, 1, 2), (3, 0, 4)), ((7, 0, 3), (0, 2, 5))],
        [((-4, 3, 7), (-1, 1, 1)), ((2, 0, 9), (0, 5, 1)), ((1, 3, 10), (1, 0, 6))],
        [((LONG, 3, LONG + 1), (1, LONG, 2)), ((1, 0, LONG), (LONG, 0, 3)), ((2, 0, 1), (0, 1, LONG + 2))],
        [((k, 1, k + 1), (1, k, 3)) for k in range(1, 61) if k % 3 != 2],
    ]


class Model:
    """A yard as the document tells it, over Python's own fractions, for deeds that are not refused."""

    def __init__(self, heap):
        self.boards = {name: tuple(pair(side) for side in one) for name, one in enumerate(heap)}
        self.next = len(heap)

    def do(self, deed):
        word = deed[0]
        names = deed[1:] if word in ("beside", "atop") else deed[1:2]
        gone = [self.boards.pop(name) for name in names]
        for sides in getattr(self, word)(gone, deed[2:]):
            self.boards[self.next] = sides
            self.next += 1

    def across(self, gone, more):
        (((a, b), height),), (f, g) = gone, pair(more[0])
        return [((f, g), height), ((a - f, b - g), height)]

    def along(self, gone, more):
        ((width, (a, b)),), (f, g) = gone, pair(more[0])
        return [(width, (f, g)), (width, (a - f, b - g))]

    def beside(self, gone, more):
        ((a, b), height), ((f, g), _) = gone
        return [((a + f, b + g), height)]

    def atop(self, gone, more):
        (width, (a, b)), (_, (f, g)) = gone
        return [(width, (a + f, b + g))]

    def stack(self, gone, more):
        (((a, b), (f, g)),), (many,) = gone, more
        return [((a / many, b / many), (f * many, g * many))]

    def spread(self, gone, more):
        (((a, b), (f, g)),), (many,) = gone, more
        return [((a * many, b * many), (f / many, g / many))]

    def turn(self, gone, more):
        return [gone[0][::-1]]

    def named(self):
        return [(name, tuple(as_length(*side) for side in self.boards[name])) for name in sorted(self.boards)]

    def heap(self):
        return [one for _, one in self.named()]


def end_by_model(heap, plan):
    model = Model(heap)
    for deed in plan:
        model.do(deed)
    return model.heap()


def places(heap):
    """The table of a heap, row by row, in Python's own fractions."""
    found = [Fraction(0)] * 4
    for width, height in heap:
        found = [sum_so_far + i * j for sum_so_far, (i, j) in zip(found, product(pair(width), pair(height)))]
    return found


def turned_about(heap):
    return [(height, width) for width, height in heap]


def times_fraction(one, share):
    return as_length(*[part * share for part in pair(one)])


def some_cut(d, side, chance):
    """A length above 0 and below the side."""
    f, g = side
    share = Fraction(chance.randrange(1, 12), 12)
    shift = Fraction(chance.randrange(-9, 10), 30)
    for at in (as_length(f * share + shift, g * share - shift / 2), as_length(f * share, g * share)):
        h, k = pair(at)
        if sign(d, at) > 0 and sign(d, as_length(f - h, g - k)) > 0:
            return at


def some_deed(d, model, chance, words):
    names = sorted(model.boards)
    name, word = chance.choice(names), chance.choice(words)
    width, height = model.boards[name]
    if word in ("across", "along"):
        return (word, name, some_cut(d, width if word == "across" else height, chance))
    if word in ("stack", "spread"):
        return (word, name, chance.choice([1, 2, 3, 5]))
    if word in ("beside", "atop"):
        side = 1 if word == "beside" else 0
        fits = [other for other in names if other != name and model.boards[other][side] == model.boards[name][side]]
        return (word, name, chance.choice(fits)) if fits else ("across", name, some_cut(d, width, chance))
    return (word, name)


def some_plan(d, heap, chance, many, words):
    """A plan that goes over the heap, with the names of Model."""
    model, plan = Model(heap), []
    for _ in range(many):
        plan.append(some_deed(d, model, chance, words))
        model.do(plan[-1])
    return plan
