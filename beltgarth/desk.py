"""The desk: what is told of a text, and code as a text."""

from beltgarth.maker import piece_keeps
from beltgarth.pieces import Outline, short
from beltgarth.reader import read
from beltgarth.writer import figures


def told(text, places):
    """By which row the program is short, else a line for each part with the fewest keeps of its pieces."""
    program = read(text)
    found = short(program, places)
    if found is not None:
        name = program[found[0]][0]
        return " ".join(["short", name, figures(found[1]), found[2]] + list(found[3]))
    return "\n".join([part_told(part, places) for part in program])


def part_told(part, places):
    """A part's name, and for each head, the begin's first, the fewest keeps of its piece."""
    outline = Outline(part)
    words = [part[0]]
    for head in outline.heads:
        many = sum([len(point) for point in piece_keeps(outline, head, places)])
        words.append(figures(head) + "=" + figures(many))
    return " ".join(words)


def shown(code):
    """The text of code, fitting or not; no line feed at the end."""
    lines = [" ".join(["belt", figures(code[0])])]
    for part in code[1]:
        lines.append(" ".join(["part", figures(part[0])]))
        lines.extend([row_shown(row) for row in part[1]])
    return "\n".join(lines)


def row_shown(row):
    """The line of a row of code."""
    words = [row[0]]
    if row[0] == "op":
        words.append(row[1])
        numbers = row[2:]
    elif row[0] == "call":
        numbers = (row[1],) + tuple(row[2])
    else:
        numbers = row[1:]
    return " ".join(words + [figures(number) for number in numbers])
