"""Belt runs: code, step by step."""

from beltgarth.belts import begun, pushed
from beltgarth.codes import places_read
from beltgarth.rows import goal, leads
from beltgarth.runs import Run, stepped
from beltgarth.worths import worth


class BeltFrame:
    """A part that was opened: the row of code at which it stands and its belt."""

    def __init__(self, part, row, belt):
        self.part = part
        self.row = row
        self.belt = belt


class Machine(Run):
    """A run of one part of code; of the frames that are open each waits for the one behind it."""

    def __init__(self, code, part, args):
        Run.__init__(self)
        self.code = code
        self.enter(part, args)

    def step(self):
        """Does the innermost frame's row; nothing where the run has ended."""
        if self.ended():
            return
        frame = self.opened[-1]
        row = self.code[1][frame.part][1][frame.row]
        taken = [frame.belt[place] for place in places_read(row)]
        if row[0] == "call":
            self.enter(row[1], taken)
        elif row[0] == "give":
            self.leave(taken[0])
        else:
            self.work(frame, row, taken)

    def frames(self):
        """The open frames, the outermost first, as tuples (part, row, belt)."""
        return [(frame.part, frame.row, frame.belt) for frame in self.opened]

    def enter(self, part, args):
        """Opens a frame of the part."""
        frame = BeltFrame(part, 0, begun(self.code[0], args, 0))
        self.opened.append(frame)
        self.go_on(frame, 0)

    def leave(self, given):
        """Shuts the innermost frame; at the call that waits for it, what was given comes in."""
        self.opened.pop()
        if self.ended():
            self.outcome = given
        else:
            frame = self.opened[-1]
            frame.belt = pushed(frame.belt, given)
            self.go_on(frame, frame.row + 1)

    def work(self, frame, row, taken):
        """Does a row that neither opens nor shuts a frame, with what it reads."""
        to = frame.row + 1
        if row[0] == "num":
            frame.belt = pushed(frame.belt, row[1])
        elif row[0] == "op":
            frame.belt = pushed(frame.belt, worth(row[1], taken[0], taken[1]))
        elif row[0] == "say":
            self.spoken.append(taken[0])
        elif row[0] == "test" and taken[0] != 0:
            to = goal(row)
        self.go_on(frame, to)

    def go_on(self, frame, to):
        """Comes to row to, and does the keeps and jumps that are due there; they are no steps."""
        rows = self.code[1][frame.part][1]
        frame.row = to
        while rows[frame.row][0] in ("keep", "jump"):
            for place in places_read(rows[frame.row]):
                frame.belt = pushed(frame.belt, frame.belt[place])
            frame.row = leads(rows, frame.row)[0]


def run_belt(code, part, args, most=400):
    """What the belt run of a part tells, as stepped tells it."""
    return stepped(Machine(code, part, args), most)
