"""Rows of works: the fewest keeps that do them."""

from beltgarth.papers import set_anew, weaker
from beltgarth.points import seen, wanted_at


def numbers(begin, works, last):
    """From each pair (k, belt) that can come to how many keeps at least it takes from there to the end."""
    return by_pairs(counted(begin, works, last, any_order(begin)))


def fewest(begin, works, last):
    """For each point the keeps done there, in order; all together the fewest."""
    return followed(begin, works, last, any_order(begin))


def numbers_to(begin, works, order):
    """As numbers, to an end with each name of the order at its place."""
    return by_pairs(counted(begin, works, names_of(order), order))


def fewest_to(begin, works, order):
    """As fewest, to an end with each name of the order at its place."""
    return followed(begin, works, names_of(order), order)


def any_order(begin):
    """The order that every belt has."""
    return (None,) * len(begin)


def names_of(order):
    """The names of an order."""
    return tuple([name for name in order if name is not None])


def by_pairs(tables):
    """One dict, by pairs (k, belt), of the dicts of all points."""
    found = {}
    for k, table in enumerate(tables):
        for belt, number in table.items():
            found[(k, belt)] = number
    return found


def counted(begin, works, last, order):
    """For each point a dict from the belts that can come there to their numbers."""
    points = wanted_at(works, last)
    come = belts_that_come(begin, works, points)
    ends = [belt for belt in come[-1] if weaker(order, belt)]
    tables = [spread(dict([(belt, 0) for belt in ends]), come[-1])]
    for k in range(len(works) - 1, -1, -1):
        starts = {}
        for belt in come[k]:
            to = worked(belt, works[k], points[k + 1])
            if to in tables[-1]:
                starts[belt] = tables[-1][to]
        tables.append(spread(starts, come[k]))
    return list(reversed(tables))


def belts_that_come(begin, works, points):
    """For each point a dict from the belts that can come there to those behind one keep."""
    come = [turned([seen(begin, points[0])])]
    for k, work in enumerate(works):
        names = points[k + 1]
        entered = [worked(belt, work, names) for belt in come[k]]
        come.append(turned([belt for belt in entered if has_all(belt, names)]))
    return come


def turned(entered):
    """From each belt that keeps bring out of these, and from these, to the belts behind one keep more."""
    come = {}
    waiting = list(entered)
    while len(waiting) > 0:
        belt = waiting.pop()
        if belt not in come:
            come[belt] = [kept(belt, place) for place in places_to_keep(belt)]
            waiting.extend(come[belt])
    return come


def places_to_keep(belt):
    """The places with a name, of a belt as seen, whose keep loses no name."""
    last = len(belt) - 1
    # A belt as seen has each name once: the one in the last place falls off for good, unless it is kept itself.
    if belt[last] is not None:
        return [last]
    return [place for place, name in enumerate(belt) if name is not None]


def kept(belt, place):
    """The belt behind a keep, as seen: the name lies in front alone."""
    return set_anew(belt, belt[place])


def worked(belt, work, names):
    """The belt behind a work, as seen where these names are wanted."""
    if work[1] is None:
        return seen(belt, names)
    return seen(set_anew(belt, work[1]), names)


def has_all(belt, names):
    """Whether each of the names lies on the belt."""
    return all([name in belt for name in names])


def spread(starts, come):
    """From each belt of come to its number: that told by starts, or one more than that of a belt behind a keep."""
    ahead = belts_ahead(come)
    waiting = {}
    for belt, number in starts.items():
        waiting.setdefault(number, []).append(belt)
    found = {}
    # The lowest first: so the first number that a belt gets is its fewest.
    while len(waiting) > 0:
        number = min(waiting)
        lot = waiting.pop(number)
        for belt in lot:
            if belt not in found:
                found[belt] = number
                waiting.setdefault(number + 1, []).extend(ahead[belt])
    return found


def belts_ahead(come):
    """From each belt to those from which one keep leads to it."""
    ahead = dict([(belt, []) for belt in come])
    for belt, brought in come.items():
        for to in brought:
            ahead[to].append(belt)
    return ahead


def followed(begin, works, last, order):
    """For each point the keeps done there, along the numbers from the begin to the end."""
    points = wanted_at(works, last)
    tables = counted(begin, works, last, order)
    belt = seen(begin, points[0])
    told = []
    for k, work in enumerate(works):
        done = []
        while tables[k][belt] != tables[k + 1].get(worked(belt, work, points[k + 1])):
            done.append(next_keep(tables[k], belt))
            belt = kept(belt, done[-1])
        told.append(tuple(done))
        belt = worked(belt, work, points[k + 1])
    done = []
    while tables[-1][belt] != 0:
        done.append(next_keep(tables[-1], belt))
        belt = kept(belt, done[-1])
    return tuple(told) + (tuple(done),)


def next_keep(table, belt):
    """The first place whose keep brings the belt nearer to the end."""
    return [place for place in places_to_keep(belt) if table[kept(belt, place)] == table[belt] - 1][0]
