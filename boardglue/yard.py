"""The yard: boards by names, and the deeds that take some away and put others."""

from boardglue.boards import is_length
from boardglue.errors import Grain, NoDeed, NoName, Unfit
from boardglue.lengths import NOUGHT, added, is_whole, length, taken, under

CUTS = ("across", "along")
GLUINGS = ("beside", "atop")
SHIFTS = ("stack", "spread")
TURN = "turn"


def is_deed(thing):
    # Names are not looked at here: a wrong one is refused otherwise.
    if not isinstance(thing, tuple) or len(thing) < 2 or not isinstance(thing[0], str):
        return False
    if len(thing) == 2:
        return thing[0] == TURN
    if len(thing) != 3:
        return False
    if thing[0] in CUTS:
        return is_length(thing[2])
    if thing[0] in SHIFTS:
        return is_whole(thing[2]) and thing[2] >= 1
    return thing[0] in GLUINGS


def names_taken(deed):
    return [deed[1], deed[2]] if deed[0] in GLUINGS else [deed[1]]


def count_put(deed):
    return 2 if deed[0] in CUTS else 1


def turned(one):
    return (one[1], one[0])


def cut_across(d, one, at):
    if not (under(d, NOUGHT, at) and under(d, at, one[0])):
        raise Unfit("the cut is not within the board")
    return [(at, one[1]), (taken(one[0], at), one[1])]


def glued_beside(one, other):
    if one[1] != other[1]:
        raise Unfit("the sides are not alike")
    return (added(one[0], other[0]), one[1])


def stacked(one, many):
    width = one[0]
    height = one[1]
    return (
        length(width[0], width[1], width[2] * many),
        length(height[0] * many, height[1] * many, height[2]),
    )


class Yard:
    def __init__(self, d, heap, turning=False):
        self.root = d
        self.turning = turning
        # Each board that ever was, at the place that is its name: so no name is
        # used twice, and the next one is always how many there are.
        self.known = list(heap)
        # Names come rising and only go, so the order of this dict is theirs.
        self.lying = dict([(name, True) for name in range(len(heap))])
        self.done = []

    def do(self, deed):
        if not is_deed(deed):
            raise NoDeed("this is no deed")
        names = names_taken(deed)
        self.check_names(names)
        if deed[0] == TURN and not self.turning:
            raise Grain("no board is turned here")
        # Whatever is refused is refused by here: only then is anything changed.
        fresh = self.put_by(deed, [self.known[name] for name in names])
        for name in names:
            self.lying.pop(name)
        for one in fresh:
            self.lying[len(self.known)] = True
            self.known.append(one)
        self.done.append(deed)

    def check_names(self, names):
        for name in names:
            # Kinds come first: True equals 1, and a list can't be looked up.
            if not is_whole(name) or name not in self.lying:
                raise NoName("no board that is there is called so")
        if len(names) == 2 and names[0] == names[1]:
            raise NoName("a board is not glued to itself")

    def put_by(self, deed, boards):
        word = deed[0]
        if word == "across":
            return cut_across(self.root, boards[0], deed[2])
        if word == "along":
            return [turned(one) for one in cut_across(self.root, turned(boards[0]), deed[2])]
        if word == "beside":
            return [glued_beside(boards[0], boards[1])]
        if word == "atop":
            return [turned(glued_beside(turned(boards[0]), turned(boards[1])))]
        if word == "stack":
            return [stacked(boards[0], deed[2])]
        if word == "spread":
            return [turned(stacked(turned(boards[0]), deed[2]))]
        return [turned(boards[0])]

    def board_ever(self, name):
        return self.known[name]

    def boards(self):
        return [(name, self.known[name]) for name in self.lying]

    def heap(self):
        return [self.known[name] for name in self.lying]

    def log(self):
        return list(self.done)
