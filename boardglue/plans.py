"""Plans, lists of deeds: walked over a heap, and turned about."""

from boardglue.yard import Yard, count_put, names_taken


def yard_behind(d, heap, plan, turning):
    yard = Yard(d, heap, turning)
    for deed in plan:
        yard.do(deed)
    return yard


def walked(d, heap, plan, turning=False):
    return yard_behind(d, heap, plan, turning).heap()


def undoing(yard, deed, names):
    # The names are those that the boards put by the deed bear on the way back.
    word = deed[0]
    if word == "across":
        return ("beside", names[0], names[1])
    if word == "along":
        return ("atop", names[0], names[1])
    if word == "beside":
        return ("across", names[0], yard.board_ever(deed[1])[0])
    if word == "atop":
        return ("along", names[0], yard.board_ever(deed[1])[1])
    if word == "stack":
        return ("spread", names[0], deed[2])
    if word == "spread":
        return ("stack", names[0], deed[2])
    return ("turn", names[0])


def places_of(names):
    places = {}
    for place, name in enumerate(sorted(names)):
        places[name] = place
    return [places[name] for name in names]


def back(d, heap, plan):
    # A plan with turnings is turned about too, so the yard lets them.
    yard = yard_behind(d, heap, plan, True)
    ends = yard.boards()
    # By each name of the walk, the name that the same board bears on the way back.
    renamed = {}
    for place, named in enumerate(ends):
        renamed[named[0]] = place
    unused = len(ends)
    behind = len(heap) + sum([count_put(deed) for deed in plan])
    deeds = []
    for deed in reversed(plan):
        ahead = behind - count_put(deed)
        deeds.append(undoing(yard, deed, [renamed[name] for name in range(ahead, behind)]))
        for name in names_taken(deed):
            renamed[name] = unused
            unused = unused + 1
        behind = ahead
    return (deeds, places_of([renamed[name] for name in range(len(heap))]))
