"""Plans, lists of deeds: walked over a heap, and turned about."""

from boardglue.yard import GLUINGS, Yard, count_put, names_taken


def yard_behind(d, heap, plan, turning):
    yard = Yard(d, heap, turning)
    for deed in plan:
        yard.do(deed)
    return yard


def walked(d, heap, plan, turning=False):
    return yard_behind(d, heap, plan, turning).heap()


def undoing(yard, deed, names):
    # The names are those that the boards put by the deed bear on the way back.
    word = deed[0]
    if word == "across":
        return ("beside", names[0], names[1])
    if word == "along":
        return ("atop", names[0], names[1])
    if word == "beside":
        return ("across", names[0], yard.board_ever(deed[1])[0])
    if word == "atop":
        return ("along", names[0], yard.board_ever(deed[1])[1])
    if word == "stack":
        return ("spread", names[0], deed[2])
    if word == "spread":
        return ("stack", names[0], deed[2])
    return ("turn", names[0])


def places_of(names):
    places = {}
    for place, name in enumerate(sorted(names)):
        places[name] = place
    return [places[name] for name in names]


def back(d, heap, plan):
    # A plan with turnings is turned about too, so the yard lets them.
    yard = yard_behind(d, heap, plan, True)
    ends = yard.boards()
    # By each name of the walk, the name that the same board bears on the way back.
    renamed = {}
    for place, named in enumerate(ends):
        renamed[named[0]] = place
    unused = len(ends)
    behind = len(heap) + sum([count_put(deed) for deed in plan])
    deeds = []
    for deed in reversed(plan):
        ahead = behind - count_put(deed)
        deeds.append(undoing(yard, deed, [renamed[name] for name in range(ahead, behind)]))
        for name in names_taken(deed):
            renamed[name] = unused
            unused = unused + 1
        behind = ahead
    return (deeds, places_of([renamed[name] for name in range(len(heap))]))


def names_behind(many, plan):
    # Which names are left hangs on the deeds alone, so no board is reckoned here.
    lying = dict([(name, True) for name in range(many)])
    unused = many
    for deed in plan:
        for name in names_taken(deed):
            lying.pop(name)
        for name in range(unused, unused + count_put(deed)):
            lying[name] = True
        unused = unused + count_put(deed)
    return list(lying)


def with_names(deed, names):
    if deed[0] in GLUINGS:
        return (deed[0], names[deed[1]], names[deed[2]])
    return (deed[0], names[deed[1]]) + deed[2:]


def followed(many, plan, more):
    # A plan over many boards, and behind it one over the heap at its end: its
    # names there are 0, 1 .. of a new yard, and are led to those of this one.
    names = names_behind(many, plan)
    unused = many + sum([count_put(deed) for deed in plan])
    deeds = list(plan)
    for deed in more:
        deeds.append(with_names(deed, names))
        for name in range(unused, unused + count_put(deed)):
            names.append(name)
        unused = unused + count_put(deed)
    return deeds
