"""Programs that are made into code for a belt, with papers."""

from beltgarth.errors import Short
from beltgarth.fewest import fewest, fewest_to, kept
from beltgarth.papers import behind
from beltgarth.pieces import Outline, args_belt, order_of, piece_of, short, work_of
from beltgarth.points import seen
from beltgarth.rows import goal, reads, sets, stands


class Block:
    """Rows of code that stand together, each with its paper, and the names on the belt behind them."""

    def __init__(self, label, belt):
        self.label = label
        self.belt = belt
        self.lines = []

    def put(self, row, n):
        """Puts a row of code behind, with the plain row at which one stands there."""
        self.lines.append((row, (n, self.belt)))

    def turn(self, places, n):
        """Puts keeps of these places behind."""
        for place in places:
            self.put(("keep", place), n)
            self.belt = kept(self.belt, place)


def made(program, places):
    """A pair (code, papers), or Short."""
    found = short(program, places)
    if found is not None:
        raise Short(found[0], found[1], found[2], found[3])
    parts = [part_made(Outline(part), places) for part in program]
    codes = [(len(part[1]), mine[0]) for part, mine in zip(program, parts)]
    return ((places, tuple(codes)), tuple([mine[1] for mine in parts]))


def keeps(code):
    """How many keep rows each part has."""
    return [len([row for row in part[1] if row[0] == "keep"]) for part in code[1]]


def part_made(outline, places):
    """A part's rows of code and their papers."""
    pieces = [piece_block(outline, head, places) for head in outline.heads]
    landings = []
    for block in pieces:
        landings.extend(landings_of(outline, block, places))
    needed = [block for block in landings if len(block.lines) > 1]
    blocks = beginning(outline, places) + pieces + needed
    lots = lines_needed(blocks)
    goals = goals_of(blocks, lots, landings)
    lines = []
    for lot in lots:
        lines.extend(lot)
    return (tuple([with_goal(row, goals) for row, paper in lines]), tuple([paper for row, paper in lines]))


def lines_needed(blocks):
    """For each block its lines, but for a jump whose goal stands right behind."""
    lots = []
    following = [block.label for block in blocks[1:]] + [None]
    for block, label in zip(blocks, following):
        many = len(block.lines)
        if block.lines[-1][0] == ("jump", label):
            many -= 1
        lots.append(block.lines[:many])
    return lots


def goals_of(blocks, lots, landings):
    """From each label to the row at which its block begins."""
    goals = {}
    many = 0
    for block, lot in zip(blocks, lots):
        goals[block.label] = many
        many += len(lot)
    for block in landings:
        # A landing without a keep stands nowhere: the test leads to the piece itself.
        if block.label not in goals:
            goals[block.label] = goals[goal(block.lines[-1][0])]
    return goals


def with_goal(row, goals):
    """The row, the label that it leads to changed into the number of a row."""
    if row[0] == "jump":
        return ("jump", goals[row[1]])
    if row[0] == "test":
        return ("test", row[1], goals[row[2]])
    return row


def beginning(outline, places):
    """Where the begin's head is led to, the landing from the args to its order, in a list; else none."""
    if outline.first not in outline.led:
        return []
    return [landing(outline, ("begin",), args_belt(outline, places), outline.first, places)]


def piece_block(outline, head, places):
    """The rows of the piece that begins at a head; their goals are labels."""
    told = piece_of(outline.rows, outline.heads, head)
    done = piece_keeps(outline, head, places)
    block = Block(("piece", head), order_of(outline, head, places))
    for k, n in enumerate(told[0]):
        block.turn(done[k], n)
        row = code_row(outline.rows[n], n, block.belt)
        block.put(row, n)
        block.belt = belt_behind(outline, n, row, block.belt)
    if told[1] is not None:
        block.turn(done[-1], told[1])
        block.put(("jump", ("piece", told[1])), told[1])
    return block


def piece_keeps(outline, head, places):
    """The fewest keeps of the piece that begins at a head, point by point."""
    told = piece_of(outline.rows, outline.heads, head)
    works = tuple([work_of(outline, n) for n in told[0]])
    begin = order_of(outline, head, places)
    if told[1] is None:
        return fewest(begin, works, ())
    return fewest_to(begin, works, order_of(outline, told[1], places))


def code_row(row, n, belt):
    """The row of code for the plain row n, where these names lie on the belt; a test's goal is its landing's label."""
    at = tuple([belt.index(name) for name in reads(row)])
    if row[0] == "num":
        return ("num", row[2])
    if row[0] == "op":
        return ("op", row[2], at[0], at[1])
    if row[0] == "call":
        return ("call", row[2], at)
    if row[0] == "test":
        return ("test", at[0], ("landing", n))
    return (row[0], at[0])


def belt_behind(outline, n, row, belt):
    """The names that lie behind plain row n and are wanted there; a give has no row behind it."""
    if row[0] == "give":
        return belt
    names = outline.wants[stands(outline.rows, n + 1)]
    return seen(behind(row, belt, sets(outline.rows[n])), names)


def landings_of(outline, block, places):
    """The landings of the tests of a block."""
    told = []
    for row, paper in block.lines:
        if row[0] == "test":
            to = stands(outline.rows, goal(outline.rows[paper[0]]))
            told.append(landing(outline, goal(row), paper[1], to, places))
    return told


def landing(outline, label, belt, to, places):
    """The fewest keeps from a belt to the order of a head, and the jump to its piece."""
    block = Block(label, seen(belt, outline.wants[to]))
    block.turn(fewest_to(block.belt, (), order_of(outline, to, places))[0], to)
    block.put(("jump", ("piece", to)), to)
    return block
