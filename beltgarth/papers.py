"""Papers: which name lies at which place of the belt."""

from beltgarth.belts import pushed


def weaker(one, other):
    """Whether each name that one tells is the other's at the same place."""
    return all([name is None or name == fellow for name, fellow in zip(one, other)])


def behind(row, names, x):
    """The names that lie behind a row of code whose plain row sets x, or None."""
    if row[0] == "keep":
        return pushed(names, names[row[1]])
    if row[0] in ("num", "op", "call"):
        return set_anew(names, x)
    return names


def set_anew(names, x):
    """The names behind the coming in of a new x: what lay there under this name is none any more."""
    return pushed(tuple([None if name == x else name for name in names]), x)
