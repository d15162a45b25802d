"""What plain runs and belt runs have in common."""


class Run:
    """The frames that are open, what was said so far, and what the outermost frame gave."""

    def __init__(self):
        self.opened = []
        self.spoken = []
        self.outcome = None

    def said(self):
        """What was said so far, in order."""
        return list(self.spoken)

    def answer(self):
        """What the outermost frame gave, or None as long as it goes on."""
        return self.outcome

    def ended(self):
        """Whether the outermost frame was shut."""
        return len(self.opened) == 0


def stepped(walk, most):
    """A tuple (word, said, answer, steps): given with the answer, or spent behind as many steps as most."""
    steps = 0
    while steps < most and not walk.ended():
        walk.step()
        steps += 1
    word = "given" if walk.ended() else "spent"
    return (word, walk.said(), walk.answer(), steps)
