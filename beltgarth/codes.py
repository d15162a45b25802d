"""Whether code fits."""

from beltgarth.rows import goal, leads


def fits(code):
    """True where each place, goal and call of the code is there and no ring is of keeps and jumps alone, else False."""
    places = code[0]
    parts = code[1]
    if places < 1 or places > 16:
        return False
    return all([part_fits(places, parts, part) for part in parts])


def part_fits(places, parts, part):
    """Whether one part of the code fits."""
    many = part[0]
    rows = part[1]
    if many < 0 or many > 4 or len(rows) == 0:
        return False
    if rows[-1][0] not in ("jump", "give"):
        return False
    if not all([row_fits(places, parts, rows, row) for row in rows]):
        return False
    # Looked at last: here every way stays within the rows.
    return not has_ring(rows)


def row_fits(places, parts, rows, row):
    """Whether the row's places are places, its goal is a row of its part, and its call is one of a part."""
    if not all([is_number_of(place, places) for place in places_read(row)]):
        return False
    to = goal(row)
    if to is not None and not is_number_of(to, len(rows)):
        return False
    return row[0] != "call" or call_fits(parts, row)


def call_fits(parts, row):
    """Whether the call is of a part that takes as many args."""
    k = row[1]
    return is_number_of(k, len(parts)) and len(row[2]) == parts[k][0]


def is_number_of(number, many):
    """Whether it is the number of one of so many, from 0 on."""
    return number >= 0 and number < many


def places_read(row):
    """The places that a row of code reads, in order."""
    word = row[0]
    if word == "op":
        return (row[2], row[3])
    if word == "call":
        return tuple(row[2])
    if word in ("keep", "say", "test", "give"):
        return (row[1],)
    return ()


def has_ring(rows):
    """Whether from some row keeps and jumps alone lead round to it again."""
    cleared = {}
    for n in range(len(rows)):
        passed = {}
        at = n
        while rows[at][0] in ("keep", "jump") and at not in cleared:
            if at in passed:
                return True
            passed[at] = True
            at = leads(rows, at)[0]
        cleared.update(passed)
    return False
