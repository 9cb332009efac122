"""Exact lengths: (a, b, n) stands for (a + b * root of d) / n, in lowest terms, n from 1 on."""

from boardglue.errors import NoLength

NOUGHT = (0, 0, 1)
LEAST_ROOT = 2
GREATEST_ROOT = 99
FAR_STEP = 4294967296
GREAT_BITS = 8192
HEAD_BITS = 64


def is_whole(thing):
    # True and False are ints to Python, but no whole numbers here.
    return isinstance(thing, int) and not isinstance(thing, bool)


def is_root(thing):
    if not is_whole(thing) or thing < LEAST_ROOT or thing > GREATEST_ROOT:
        return False
    side = square_root_floor(thing)
    return side * side != thing


def square_root_floor(number):
    if number < 2:
        return number
    # Newton's steps only fall towards the root when they begin above it;
    # far steps get there soon for numbers of hundreds of figures too.
    guess = FAR_STEP
    while guess * guess < number:
        guess = guess * FAR_STEP
    better = (guess + number // guess) // 2
    while better < guess:
        guess = better
        better = (guess + number // guess) // 2
    return guess


def common_divisor(one, other):
    if other.bit_length() > GREAT_BITS:
        pair = (max(abs(one), abs(other)), min(abs(one), abs(other)))
        while pair[1].bit_length() > GREAT_BITS:
            pair = far_rests(pair[0], pair[1])
        one = pair[0]
        other = pair[1]
    while other != 0:
        rest = one % other
        one = other
        other = rest
    return abs(one)


def far_rests(one, other):
    # Many divisions of great numbers hang on their first bits alone: those are
    # done on the heads, and the great numbers then go all the steps at once.
    beyond = one.bit_length() - HEAD_BITS
    steps = sure_steps(one >> beyond, other >> beyond)
    if steps[0][1] == 0:
        return (other, one % other)
    return (
        steps[0][0] * one + steps[0][1] * other,
        steps[1][0] * one + steps[1][1] * other,
    )


def sure_steps(one, other):
    # How often each of two numbers goes into the last two rests, for as long as
    # the bits behind the heads, whatever they are, leave each quotient as it is.
    ahead = (1, 0)
    last = (0, 1)
    while other + last[0] != 0 and other + last[1] != 0:
        many = (one + ahead[0]) // (other + last[0])
        if many != (one + ahead[1]) // (other + last[1]):
            break
        rest = (ahead[0] - many * last[0], ahead[1] - many * last[1])
        ahead = last
        last = rest
        left = one - many * other
        one = other
        other = left
    return (ahead, last)


def with_sign_of(divisor, bottom):
    # A divisor below 0 turns a bottom below 0 into one from 1 on.
    return -divisor if bottom < 0 else divisor


def length(a, b=0, n=1):
    if not (is_whole(a) and is_whole(b) and is_whole(n)):
        raise NoLength("a length is made of whole numbers")
    if n == 0:
        raise NoLength("the third number of a length is not 0")
    # The third goes first: it is often small, and then the rest is soon done.
    divisor = with_sign_of(common_divisor(common_divisor(n, a), b), n)
    return (a // divisor, b // divisor, n // divisor)


def fraction(top, bottom=1):
    divisor = with_sign_of(common_divisor(top, bottom), bottom)
    return (top // divisor, bottom // divisor)


def parts(one):
    return (fraction(one[0], one[2]), fraction(one[1], one[2]))


def by_parts(f, g):
    # Both are in lowest terms, so over their least common bottom nothing is left to divide out.
    shared = common_divisor(f[1], g[1])
    return (f[0] * (g[1] // shared), g[0] * (f[1] // shared), f[1] // shared * g[1])


def added(one, other):
    # Likewise only what their bottoms share can be left to divide out here: a
    # length with a great bottom and one with a small bottom are soon added.
    shared = common_divisor(one[2], other[2])
    ahead = other[2] // shared
    behind = one[2] // shared
    a = one[0] * ahead + other[0] * behind
    b = one[1] * ahead + other[1] * behind
    left = common_divisor(common_divisor(shared, a), b)
    return (a // left, b // left, behind * (other[2] // left))


def taken(one, other):
    return added(one, (-other[0], -other[1], other[2]))


def timed(d, one, other):
    return length(
        one[0] * other[0] + d * one[1] * other[1],
        one[0] * other[1] + one[1] * other[0],
        one[2] * other[2],
    )


def parted(d, one, other):
    if other == NOUGHT:
        raise NoLength("nothing is divided by 0")
    # Top and bottom are both timed by a - b * root of d of the divisor: the
    # bottom's root goes away, and it is not 0, for d is no square.
    bottom = other[0] * other[0] - d * other[1] * other[1]
    return timed(d, one, length(other[2] * other[0], -other[2] * other[1], bottom))


def is_above_nought(d, a, b):
    # Where a and b * root of d pull apart, their squares tell which is greater.
    if a >= 0 and b >= 0:
        return a > 0 or b > 0
    if a <= 0 and b <= 0:
        return False
    if a > 0:
        return a * a > d * b * b
    return d * b * b > a * a


def under(d, one, other):
    return is_above_nought(
        d,
        other[0] * one[2] - one[0] * other[2],
        other[1] * one[2] - one[1] * other[2],
    )


def floor_of(d, one):
    root_part = square_root_floor(d * one[1] * one[1])
    if one[1] < 0:
        # b * root of d is never whole unless b is 0, so below 0 it lies
        # one step further down than the root's floor taken negative.
        root_part = -root_part - 1
    return (one[0] + root_part) // one[2]
