"""Plain runs: a program as it stands, step by step."""

from beltgarth.rows import goal, reads, sets, stands
from beltgarth.runs import Run, stepped
from beltgarth.worths import worth


class Frame:
    """A part that was opened: the row at which it stands and the names set in it so far."""

    def __init__(self, part, row, names):
        self.part = part
        self.row = row
        self.names = names


class Walk(Run):
    """A run of one part; of the frames that are open each waits for the one behind it."""

    def __init__(self, program, part, args):
        Run.__init__(self)
        self.program = program
        self.enter(part, args)

    def step(self):
        """Does the innermost frame's row; nothing where the run has ended."""
        if self.ended():
            return
        frame = self.opened[-1]
        row = self.program[frame.part][2][frame.row]
        taken = [frame.names[name] for name in reads(row)]
        if row[0] == "call":
            self.enter(row[2], taken)
        elif row[0] == "give":
            self.leave(taken[0])
        else:
            self.work(frame, row, taken)

    def frames(self):
        """The open frames, the outermost first, as tuples (part, row, names)."""
        return [(frame.part, frame.row, dict(frame.names)) for frame in self.opened]

    def enter(self, part, args):
        """Opens a frame of the part."""
        params = self.program[part][1]
        row = stands(self.program[part][2], 0)
        self.opened.append(Frame(part, row, dict(zip(params, args))))

    def leave(self, given):
        """Shuts the innermost frame; the call that waits for it gets what was given."""
        self.opened.pop()
        if self.ended():
            self.outcome = given
        else:
            frame = self.opened[-1]
            frame.names[sets(self.program[frame.part][2][frame.row])] = given
            self.go_on(frame, frame.row + 1)

    def work(self, frame, row, taken):
        """Does a row that neither opens nor shuts a frame, with what it reads."""
        to = frame.row + 1
        if row[0] == "num":
            frame.names[row[1]] = row[2]
        elif row[0] == "op":
            frame.names[row[1]] = worth(row[2], taken[0], taken[1])
        elif row[0] == "say":
            self.spoken.append(taken[0])
        elif row[0] == "test" and taken[0] != 0:
            to = goal(row)
        self.go_on(frame, to)

    def go_on(self, frame, to):
        """Comes to row to, and stands where it leads."""
        frame.row = stands(self.program[frame.part][2], to)


def run(program, part, args, most=400):
    """What the plain run of a part tells, as stepped tells it."""
    return stepped(Walk(program, part, args), most)
