"""Which names are wanted at which row."""

from beltgarth.rows import come_to, leads, reads, sets, stands


def wanted(rows):
    """From each row that is come to to the names, sorted, that some way on from it reads ahead of setting them."""
    ahead = rows_ahead(rows)
    readers = rows_that_read(rows)
    found = dict([(n, []) for n in ahead])
    # Name by name, each row is passed once at most, however many ways there are.
    for name in sorted(readers):
        for n in rows_wanting(rows, ahead, readers[name], name):
            found[n].append(name)
    return dict([(n, tuple(names)) for n, names in found.items()])


def rows_ahead(rows):
    """From each row that is come to to those behind which one may stand at it."""
    come = come_to(rows)
    ahead = dict([(n, []) for n in come])
    for n in come:
        for to in leads(rows, n):
            ahead[stands(rows, to)].append(n)
    return ahead


def rows_that_read(rows):
    """From each name to the rows that are come to and read it."""
    readers = {}
    for n in come_to(rows):
        for name in reads(rows[n]):
            readers.setdefault(name, []).append(n)
    return readers


def rows_wanting(rows, ahead, readers, name):
    """The rows at which the name is wanted: its readers, and back from these all that don't set it."""
    passed = {}
    waiting = list(readers)
    while len(waiting) > 0:
        n = waiting.pop()
        if n not in passed:
            passed[n] = True
            waiting.extend([m for m in ahead[n] if sets(rows[m]) != name])
    return list(passed)
