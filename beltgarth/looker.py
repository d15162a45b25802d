"""The looker: whether papers are right for a program and its code."""

from beltgarth.belts import begun
from beltgarth.codes import places_read
from beltgarth.papers import behind, weaker
from beltgarth.rows import leads, reads, sets, stands


def wrong(program, code, papers):
    """None where the papers are let by, else (part, row): the first of the code of which they are not right."""
    places = code[0]
    parts = code[1]
    k = unlike(program, parts)
    if k is not None:
        return (k, 0)
    for k, part in enumerate(program):
        row = row_wrong(places, part, parts[k][1], papers[k])
        if row is not None:
            return (k, row)
    return None


def unlike(program, parts):
    """The first part of either that has no fellow or whose fellow takes another number of args, or None."""
    takes = [len(part[1]) for part in program]
    many = [part[0] for part in parts]
    for k in range(max(len(takes), len(many))):
        # Behind the end a slice is empty, so a part without a fellow is unlike too.
        if takes[k:k + 1] != many[k:k + 1]:
            return k
    return None


def row_wrong(places, part, codes, papers):
    """The first row of a part's code of which its papers are not right, the begin as row 0, or None."""
    if not fits_behind(papers[0], stands(part[2], 0), begun(places, part[1], None)):
        return 0
    for m in range(len(codes)):
        if not is_right(part[2], codes, papers, m):
            return m
    return None


def fits_behind(paper, n, names):
    """Whether the paper is one for a coming to the plain row n with these names."""
    return paper[0] == n and weaker(paper[1], names)


def is_right(rows, codes, papers, m):
    """Whether row m of the code does what its paper's plain row asks, and the papers behind it follow from it."""
    code_row = codes[m]
    n = papers[m][0]
    names = papers[m][1]
    if code_row[0] in ("keep", "jump"):
        plain_next = (n,)
    elif not same_work(rows[n], code_row, names):
        return False
    else:
        plain_next = tuple([stands(rows, to) for to in leads(rows, n)])
    told = behind(code_row, names, sets(rows[n]))
    # The words are alike here, so both lead on to as many rows, in the same order.
    return all([fits_behind(papers[to], row, told) for to, row in zip(leads(codes, m), plain_next)])


def same_work(row, code_row, names):
    """Whether the code's row does the plain one's work and reads, by the names, what that one reads."""
    if row[0] != code_row[0]:
        return False
    # A num's worth, an op's sign, a call's part.
    if row[0] in ("num", "op", "call") and row[2] != code_row[1]:
        return False
    return tuple([names[place] for place in places_read(code_row)]) == reads(row)
