"""The normal heap: at most two boards, as wide as the lengths of a base, and the plan that leads to it."""

from boardglue.bases import counts
from boardglue.lengths import NOUGHT, added, timed


def times_over(d, many, one):
    return timed(d, (many, 0, 1), one)


def normal_heap(d, heap, base):
    told = []
    for place in range(2):
        height = NOUGHT
        for one in heap:
            many = counts(d, base, one[0])[place]
            height = added(height, times_over(d, many, one[1]))
        if height != NOUGHT:
            told.append((base[place], height))
    return told


def normal_plan(d, heap, base):
    deeds = []
    # By each length of the base, the boards so many times as wide: (name, many).
    firsts = []
    others = []
    unused = len(heap)
    for name, one in enumerate(heap):
        pair = counts(d, base, one[0])
        if pair[1] == 0:
            firsts.append((name, pair[0]))
        elif pair[0] == 0:
            others.append((name, pair[1]))
        else:
            deeds.append(("across", name, times_over(d, pair[0], base[0])))
            firsts.append((unused, pair[0]))
            others.append((unused + 1, pair[1]))
            unused = unused + 2
    stacking = gathering(firsts, unused)
    # Every board is stacked, if only once: so those of the base's second length
    # have later names than those of its first one, and lie behind them.
    return deeds + stacking + gathering(others, unused + len(stacking))


def gathering(pieces, unused):
    # Each deed puts just one board, so the next name rises by 1 each time.
    deeds = []
    for place, piece in enumerate(pieces):
        deeds.append(("stack", piece[0], piece[1]))
        if place > 0:
            # The new strip goes first: where the plan is turned about, the cut
            # is then at its height, and not at the great sum of all so far.
            fresh = unused + len(deeds) - 1
            deeds.append(("atop", fresh, fresh - 1))
    return deeds
