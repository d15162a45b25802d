"""What the document says of rows of works and of pieces, word by word and without haste, for the tests to hold against."""

import heapq


def standing(rows, n):
    return standing(rows, rows[n][1]) if rows[n][0] == "jump" else n


def next_rows(rows, n):
    row = rows[n]
    if row[0] == "give":
        return []
    return [standing(rows, n + 1)] + ([standing(rows, row[2])] if row[0] == "test" else [])


def come(rows):
    found, waiting = set(), [standing(rows, 0)]
    while waiting:
        at = waiting.pop()
        if at not in found:
            found.add(at)
            waiting += next_rows(rows, at)
    return found


def read_names(row):
    return {"num": (), "op": row[3:], "call": row[3:] and row[3], "say": row[1:], "test": row[1:2], "give": row[1:]}[row[0]]


def set_name(row):
    return row[1] if row[0] in ("num", "op", "call") else None


def is_wanted(rows, n, name):
    passed, waiting = set(), [n]
    while waiting:
        at = waiting.pop()
        if at not in passed:
            passed.add(at)
            if name in read_names(rows[at]):
                return True
            if set_name(rows[at]) != name:
                waiting += next_rows(rows, at)
    return False


def wanted(rows, n):
    names = {name for row in rows if row[0] != "jump" for name in read_names(row)}
    return tuple(sorted(name for name in names if is_wanted(rows, n, name)))


# Points 28 to 30.

def led_to(rows):
    led, here = set(), come(rows)
    for n in here:
        if rows[n][0] == "test":
            led.add(standing(rows, rows[n][2]))
        if rows[n][0] != "give" and (rows[n + 1][0] == "jump" or n + 1 == standing(rows, 0)):
            led.add(standing(rows, n + 1))
    return sorted(led)


def heads(rows):
    return sorted({standing(rows, 0)} | set(led_to(rows)))


def args_belt(params, places):
    return tuple((list(reversed(params)) + [None] * places)[:places])


def order(part, n, places):
    name, params, rows = part
    names = wanted(rows, n)
    if n == standing(rows, 0) and n not in led_to(rows):
        return tuple(thing if thing in names else None for thing in args_belt(params, places))
    return tuple((list(names) + [None] * places)[:places])


def words_short(part, n, places):
    """All words by which the row is short, each with its names."""
    name, params, rows = part
    names, found = wanted(rows, n), []
    lost = tuple(sorted(set(params) & set(names) - set(args_belt(params, places))))
    if n == standing(rows, 0) and lost:
        found.append(("begin", lost))
    if n in led_to(rows) and len(names) >= places:
        found.append(("head", names))
    if len(names) > places:
        found.append(("ahead", names))
    if set_name(rows[n]) is not None:
        left = tuple(sorted(set(wanted(rows, standing(rows, n + 1))) - {set_name(rows[n])}))
        if len(left) > places - 1:
            found.append(("behind", left))
    return found


def short(program, places):
    for k, part in enumerate(program):
        for n in sorted(come(part[2])):
            for word, names in words_short(part, n, places):
                return (k, n, word, names)
    return None


def piece(rows, head):
    told, at = [], head
    while True:
        told.append(at)
        if rows[at][0] == "give":
            return (told, None)
        at = standing(rows, at + 1)
        if at in heads(rows):
            return (told, at)


def works(rows, numbers):
    told = []
    for n in numbers:
        reads = tuple(read_names(rows[n]))
        if rows[n][0] == "test":
            reads += wanted(rows, standing(rows, rows[n][2]))
        told.append((reads, set_name(rows[n])))
    return tuple(told)


# Points 22 to 27.

def wanted_at(works_told, last, k):
    if k == len(works_told):
        return set(last)
    reads, makes = works_told[k]
    return set(reads) | wanted_at(works_told, last, k + 1) - {makes}


def seen(belt, names):
    return tuple(thing if thing in names and belt.index(thing) == n else None for n, thing in enumerate(belt))


def behind_work(belt, makes):
    if makes is None:
        return belt
    return (makes,) + tuple(None if thing == makes else thing for thing in belt)[:-1]


def keeps_from(pair, wants):
    """The pairs behind one keep, each with its place."""
    k, belt = pair
    told = []
    for place, thing in enumerate(belt):
        if thing is not None:
            after = seen((thing,) + belt[:-1], wants[k])
            if wants[k] <= set(after):
                told.append((place, (k, after)))
    return told


def work_from(pair, works_told, wants):
    """The pair behind the work, or None where it lacks a name or there is no work."""
    k, belt = pair
    if k == len(works_told):
        return None
    after = seen(behind_work(belt, works_told[k][1]), wants[k + 1])
    return (k + 1, after) if wants[k + 1] <= set(after) else None


def pairs(begin, works_told, last):
    """All pairs that can come [24], and the names wanted at each point."""
    wants = [wanted_at(works_told, last, k) for k in range(len(works_told) + 1)]
    found, waiting = set(), [(0, seen(begin, wants[0]))]
    while waiting:
        pair = waiting.pop()
        if pair not in found:
            found.add(pair)
            waiting += [after for place, after in keeps_from(pair, wants)]
            waiting += [after for after in [work_from(pair, works_told, wants)] if after is not None]
    return found, wants


def lies(belt, order_told):
    return all(name is None or belt[n] == name for n, name in enumerate(order_told))


def fewest_number(begin, works_told, last, order_told=None):
    """How many keeps at least it takes from the begin, the cheapest way looked for from there on; None where none does."""
    found, wants = pairs(begin, works_told, last)
    start = (0, seen(begin, wants[0]))
    best, waiting = {}, [(0, 0, start)]
    many = 0
    while waiting:
        number, turn, pair = heapq.heappop(waiting)
        if pair in best:
            continue
        best[pair] = number
        if pair[0] == len(works_told) and (order_told is None or lies(pair[1], order_told)):
            return number
        nexts = [(number + 1, after) for place, after in keeps_from(pair, wants)]
        after = work_from(pair, works_told, wants)
        nexts += [(number, after)] if after is not None else []
        for cost, after in nexts:
            many += 1
            heapq.heappush(waiting, (cost, many, after))
    return None


def raw_fewest(begin, works_told, last, order_told=None):
    """Point 21 with belts as they are, whatever lies on them, and keeps of all places; None where no number does."""
    level, passed, number = {(0, begin)}, set(), 0
    while level:
        waiting, here = list(level), set(level)
        while waiting:
            k, belt = waiting.pop()
            if k == len(works_told):
                if set(last) <= set(belt) and (order_told is None or lies(belt, order_told)):
                    return number
            elif set(works_told[k][0]) <= set(belt):
                after = (k + 1, behind_work(belt, works_told[k][1]))
                if after not in here and after not in passed:
                    here.add(after)
                    waiting.append(after)
        passed |= here
        level = {(k, (thing,) + belt[:-1]) for k, belt in here for thing in belt} - passed
        number += 1
    return None
