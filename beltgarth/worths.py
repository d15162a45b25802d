"""What the signs of an op make of two worths."""


def worth(s, one, other):
    """one s other, a worth."""
    if s == "<":
        return 1 if one < other else 0
    if s == "=":
        return 1 if one == other else 0
    return unbounded(s, one, other) % 2 ** 64


def unbounded(s, one, other):
    """The sum, difference or product, as great or small as it may be."""
    if s == "+":
        return one + other
    if s == "-":
        return one - other
    return one * other
