"""The pieces of a part: where they begin, in which order the names lie there, and whether they have room."""

from beltgarth.belts import begun
from beltgarth.points import seen, without
from beltgarth.rows import come_to, goal, reads, sets, stands
from beltgarth.wants import wanted


class Outline:
    """What the pieces of a part rest on; rows led to and heads are the keys of dicts, the begin's head first."""

    def __init__(self, part):
        self.params = part[1]
        self.rows = part[2]
        self.wants = wanted(part[2])
        self.first = stands(part[2], 0)
        led = led_to(part[2])
        self.led = as_keys(led)
        # A key stays where it came in first, so the begin's head is the first one also where it is led to.
        self.heads = as_keys([self.first] + led)


def as_keys(numbers):
    """A dict with these numbers as its keys, in their order."""
    return dict([(n, True) for n in numbers])


def heads(rows):
    """The heads of a part, rising."""
    return sorted(set([stands(rows, 0)] + led_to(rows)))


def led_to(rows):
    """The rows that are led to, rising."""
    led = {}
    for n in come_to(rows):
        if rows[n][0] == "test":
            led[stands(rows, goal(rows[n]))] = True
        if rows[n][0] != "give" and (rows[n + 1][0] == "jump" or n + 1 == stands(rows, 0)):
            led[stands(rows, n + 1)] = True
    return sorted(led)


def order(part, n, places):
    """The order of head n: which name lies at which place."""
    return order_of(Outline(part), n, places)


def order_of(outline, n, places):
    """The order of head n of a part whose outline is told."""
    names = outline.wants[n]
    if n == outline.first and n not in outline.led:
        return args_belt(outline, places)
    return (names + (None,) * places)[:places]


def args_belt(outline, places):
    """The params as the args come in, None for those that are not wanted at the begin's head."""
    return seen(begun(places, outline.params, None), outline.wants[outline.first])


def short(program, places):
    """The first row that is short, as (part, row, word, names), or None."""
    for k, part in enumerate(program):
        outline = Outline(part)
        for n in sorted(outline.wants):
            found = row_short(outline, n, places)
            if found is not None:
                return (k, n, found[0], found[1])
    return None


def row_short(outline, n, places):
    """The word and the names by which row n is short, or None."""
    names = outline.wants[n]
    lost = lost_at(outline, n, places)
    if len(lost) > 0:
        return ("begin", lost)
    if n in outline.led and len(names) >= places:
        return ("head", names)
    if len(names) > places:
        return ("ahead", names)
    left = left_behind(outline, n)
    if len(left) > places - 1:
        return ("behind", left)
    return None


def lost_at(outline, n, places):
    """The params, sorted, that are wanted at the begin's head and lie on no place; of other rows none."""
    if n != outline.first:
        return ()
    lies = args_belt(outline, places)
    return tuple([name for name in outline.wants[n] if name in outline.params and name not in lies])


def left_behind(outline, n):
    """The names that are wanted behind a row that sets one, that one left out; of a row that sets none, none."""
    x = sets(outline.rows[n])
    if x is None:
        return ()
    return without(outline.wants[stands(outline.rows, n + 1)], x)


def piece(rows, head):
    """The rows of the piece that begins at a head, in order, and the head behind it, or None behind a give."""
    return piece_of(rows, as_keys(heads(rows)), head)


def piece_of(rows, tops, head):
    """The piece that begins at a head, where all heads are told as keys of a dict."""
    told = [head]
    while rows[told[-1]][0] != "give":
        to = stands(rows, told[-1] + 1)
        if to in tops:
            return (told, to)
        told.append(to)
    return (told, None)


def work_of(outline, n):
    """Row n as a work; a test reads what is wanted where it leads to, too."""
    row = outline.rows[n]
    if row[0] == "test":
        return (reads(row) + outline.wants[stands(outline.rows, goal(row))], None)
    return (reads(row), sets(row))
