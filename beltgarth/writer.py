"""Programs that are written as texts."""


def write(program):
    """The text of a program, let by or not, whose calls have parts; no line feed at the end."""
    lines = []
    for part in program:
        lines.append(" ".join(["part", part[0]] + list(part[1])))
        lines.extend([line_of(program, row) for row in part[2]])
    return "\n".join(lines)


def line_of(program, row):
    """The line of a row."""
    word = row[0]
    if word == "num":
        return " ".join([row[1], "=", figures(row[2])])
    if word == "op":
        return " ".join([row[1], "=", row[3], row[2], row[4]])
    if word == "call":
        return " ".join([row[1], "=", "call", program[row[2]][0]] + list(row[3]))
    if word == "jump":
        return " ".join([word, figures(row[1])])
    if word == "test":
        return " ".join([word, row[1], figures(row[2])])
    return " ".join([word, row[1]])


def figures(number):
    """A whole number by its figures, no 0 ahead but of 0 itself."""
    sign = "-" if number < 0 else ""
    left = abs(number)
    # A goal may be any whole number, and str alone refuses one of some thousand figures: 18 are taken at a time.
    lots = []
    while left >= 10 ** 18:
        lots.append(str(left % 10 ** 18).zfill(18))
        left = left // 10 ** 18
    lots.append(str(left))
    return sign + "".join(reversed(lots))
