"""Rows of works: which names are wanted at which point, and whether they have room."""


def wanted_at(works, last):
    """For each point the names, sorted, that are wanted there."""
    names = tuple(sorted(set(last)))
    points = [names]
    for work in reversed(works):
        names = tuple(sorted(set(without(names, work[1]) + tuple(work[0]))))
        points.append(names)
    return list(reversed(points))


def without(names, name):
    """The names but this one."""
    return tuple([one for one in names if one != name])


def crowded(places, works, last):
    """The first point at which more names are wanted than have room, as (word, k, names), or None."""
    points = wanted_at(works, last)
    for k, names in enumerate(points):
        if len(names) > places:
            return ("ahead", k, names)
        if k < len(works) and works[k][1] is not None:
            left = without(points[k + 1], works[k][1])
            if len(left) > places - 1:
                return ("behind", k, left)
    return None


def seen(belt, names):
    """The belt with each of these names at its place nearest to the front alone, None at all other places."""
    told = []
    for thing in belt:
        told.append(thing if thing in names and thing not in told else None)
    return tuple(told)
