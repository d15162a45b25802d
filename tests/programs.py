"""Programs for the tests: some written out, and others by a chance that is told its seed."""

from beltgarth.checks import check
from beltgarth.errors import NoProgram

NAMES = "abcde"

# Says x, x - 1, .. 1 and gives the sum of them.
COUNT = (("count", ("x",), (
    ("num", "sum", 0),
    ("num", "one", 1),
    ("test", "x", 4),
    ("give", "sum"),
    ("say", "x"),
    ("op", "sum", "+", "sum", "x"),
    ("op", "x", "-", "x", "one"),
    ("jump", 2),
)),)

# x! by calls of itself; part 1 says what it gives.
FACT = (
    ("fact", ("x",), (
        ("num", "one", 1),
        ("test", "x", 3),
        ("give", "one"),
        ("op", "y", "-", "x", "one"),
        ("call", "y", 0, ("y",)),
        ("call", "y", 1, ("y", "x")),
        ("give", "y"),
    )),
    ("times", ("a", "b"), (("op", "a", "*", "a", "b"), ("say", "a"), ("give", "a"))),
)

# Jumps at the begin of each part, behind jumps, behind a call and by both ways of a test.
JUMPS = (
    ("main", ("a", "b"), (
        ("jump", 2), ("give", "b"), ("jump", 4), ("jump", 1), ("test", "a", 3), ("jump", 6), ("jump", 7),
        ("call", "b", 1, ("b", "a")), ("jump", 10), ("say", "a"), ("say", "b"), ("jump", 12), ("jump", 1),
    )),
    ("other", ("x", "y"), (("jump", 1), ("jump", 3), ("give", "x"), ("op", "x", "<", "y", "x"), ("jump", 2))),
)

# The begin's head is led to: by a loop, by the row ahead of it, by a test.
LOOP = (("loop", ("x",), (("say", "x"), ("jump", 0))),)
FALLS = (("falls", ("x", "y"), (("jump", 2), ("say", "x"), ("say", "y"), ("test", "x", 1), ("give", "y"))),)
BACK = (("back", ("a", "b", "c"), (("op", "a", "-", "a", "b"), ("say", "c"), ("test", "a", 0), ("give", "c"))),)

PROGRAMS = [COUNT, FACT, JUMPS, LOOP, FALLS, BACK]


def random_row(chance, names, takes, many):
    """A row of a part of so many rows."""
    a, b, x = (chance.choice(names) for n in range(3))
    word = chance.choice(["num", "op", "op", "op", "call", "say", "say", "test", "test", "jump", "give"])
    k = chance.randrange(len(takes))
    return {
        "num": ("num", x, chance.choice([0, 1, 2, 2 ** 64 - 1])),
        "op": ("op", x, chance.choice("+-*<="), a, b),
        "call": ("call", x, k, tuple(chance.choice(names) for n in range(takes[k]))),
        "say": ("say", a),
        "test": ("test", a, chance.randrange(many)),
        "jump": ("jump", chance.randrange(many)),
        "give": ("give", a),
    }[word]


def random_rows(chance, params, takes, most):
    """Rows that may be let by or not; names that are no params are set ahead of all else, as a rule."""
    names = params + chance.sample(NAMES, chance.randint(1, 2))
    rows = [("num", name, chance.randrange(3)) for name in sorted(set(names) - set(params)) if chance.random() < 0.9]
    many = max(len(rows) + 1, chance.randint(1, most))
    while len(rows) < many - 1:
        rows.append(random_row(chance, names, takes, many))
    rows.append(("give", chance.choice(names)) if chance.random() < 0.7 else ("jump", chance.randrange(many)))
    return tuple(rows)


def random_program(chance, many, most):
    """A program of so many parts, of at most so many rows each, that is let by."""
    params = [chance.sample(NAMES, chance.choice([0, 1, 1, 2, 2, 3, 4])) for k in range(many)]
    takes = [len(mine) for mine in params]
    stubs = [(NAMES[k], tuple(params[k]), (("num", "x", 0), ("give", "x"))) for k in range(many)]
    program = []
    while len(program) < many:
        k = len(program)
        part = (NAMES[k], tuple(params[k]), random_rows(chance, params[k], takes, most))
        try:
            check(tuple(program + [part] + stubs[k + 1:]))
        except NoProgram:
            continue
        program.append(part)
    return tuple(program)
