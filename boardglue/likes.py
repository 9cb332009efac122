"""Like heaps: a plan that makes the one into the other, or the place where their tables are unlike."""

from boardglue.bases import serving
from boardglue.normal import normal_plan
from boardglue.plans import back, followed
from boardglue.tables import table


def first_unlike(one, other):
    for row in range(2):
        for column in range(2):
            if one[row][column] != other[row][column]:
                return (row, column)
    return None


def like(d, one, other):
    place = first_unlike(table(one), table(other))
    if place is not None:
        return ("apart", place[0], place[1])
    # By one base that serves both, both are made into the same normal heap.
    base = serving(d, [each[0] for each in one + other])
    returning = back(d, other, normal_plan(d, other, base))
    plan = followed(len(one), normal_plan(d, one, base), returning[0])
    return ("plan", plan, returning[1])
