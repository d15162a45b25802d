"""Whether a program is let by."""

from beltgarth.errors import NoProgram
from beltgarth.rows import goal, reads, walked


def check(program):
    """None, or NoProgram by the first part of which something is due."""
    for k, part in enumerate(program):
        # The order counts: behind the row check every way stays within the rows, so the next ones may follow it.
        refuse(k, name_due(program, k), "name")
        refuse(k, row_due(program, k), "row")
        refuse(k, ring_due(part[2]), "ring")
        refuse(k, unset_due(part), "unset")


def refuse(part, row, word):
    """NoProgram where a row is due, nothing where row is None."""
    if row is not None:
        raise NoProgram(part, row, word)


def name_due(program, k):
    """0 where the part's name is one of a part ahead or two of its params are alike, else None."""
    name = program[k][0]
    params = program[k][1]
    if name in [part[0] for part in program[:k]]:
        return 0
    if len(set(params)) < len(params):
        return 0
    return None


def row_due(program, k):
    """The first row that leads nowhere: its goal, its call, or as the last one what comes behind it."""
    rows = program[k][2]
    if len(rows) == 0:
        return 0
    for n, row in enumerate(rows):
        if goes_astray(rows, row) or calls_amiss(program, row):
            return n
    if rows[-1][0] not in ("jump", "give"):
        return len(rows) - 1
    return None


def goes_astray(rows, row):
    """Whether the row names a goal that is the number of no row."""
    to = goal(row)
    return to is not None and (to < 0 or to >= len(rows))


def calls_amiss(program, row):
    """Whether the row calls no part, or one that takes another number of args."""
    if row[0] != "call":
        return False
    k = row[2]
    if k < 0 or k >= len(program):
        return True
    return len(row[3]) != len(program[k][1])


def ring_due(rows):
    """The first jump from which jumps alone lead round to itself, or None."""
    for n in range(len(rows)):
        if comes_round(rows, n):
            return n
    return None


def comes_round(rows, n):
    """Whether row n is a jump in a ring of jumps; one that only leads into a ring is not."""
    passed = {}
    at = n
    while rows[at][0] == "jump" and at not in passed:
        passed[at] = True
        at = goal(rows[at])
    return at == n and n in passed


def unset_due(part):
    """The first row that reads a name which on some way to it isn't set, or None."""
    rows = part[2]
    due = []
    for name in names_read(rows):
        if name not in part[1]:
            due.extend([n for n in walked(rows, name) if name in reads(rows[n])])
    return min(due, default=None)


def names_read(rows):
    """Each name that some row reads, once."""
    names = {}
    for row in rows:
        for name in reads(row):
            names[name] = True
    return list(names)
