"""What a row reads and sets, and which rows come behind it."""


def reads(row):
    """The names that a row reads, in the order in which it reads them."""
    word = row[0]
    if word == "op":
        return (row[3], row[4])
    if word == "call":
        return tuple(row[3])
    if word in ("say", "test", "give"):
        return (row[1],)
    return ()


def sets(row):
    """The name that a row sets, or None."""
    if row[0] in ("num", "op", "call"):
        return row[1]
    return None


def goal(row):
    """The row's number that a jump or a test names, of all else None."""
    if row[0] == "jump":
        return row[1]
    if row[0] == "test":
        return row[2]
    return None


def leads(rows, n):
    """The rows that come next behind row n."""
    word = rows[n][0]
    if word == "give":
        return ()
    if word == "jump":
        return (goal(rows[n]),)
    if word == "test":
        return (n + 1, goal(rows[n]))
    return (n + 1,)


def stands(rows, n):
    """The row at which one stands who comes to row n; no ring is of jumps alone."""
    at = n
    while rows[at][0] == "jump":
        at = goal(rows[at])
    return at


def walked(rows, unset=None):
    """The rows, rising, to which a way leads from row 0; with a name, a way on which no row ahead sets it."""
    found = {0: True}
    waiting = [0]
    while len(waiting) > 0:
        n = waiting.pop()
        # sets tells None of a row that sets nothing, so where no name is asked for it can't be compared.
        if unset is None or sets(rows[n]) != unset:
            for to in leads(rows, n):
                if to not in found:
                    found[to] = True
                    waiting.append(to)
    return sorted(found)


def come_to(rows):
    """The rows, rising, at which one may stand."""
    return [n for n in walked(rows) if rows[n][0] != "jump"]
