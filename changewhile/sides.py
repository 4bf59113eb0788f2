"""Both sides of a change, for the search for a pairing."""

from changewhile.changes import changed
from changewhile.papers import own_papers
from changewhile.turning import Turning


class Sides:
    """A right program ahead of a change and behind it, with the papers of both."""

    def __init__(self, program, change):
        self.ahead = program
        self.change = change
        self.behind = changed(program, change)
        self.old_papers = own_papers(self.ahead)
        self.new_papers = own_papers(self.behind)
        # The parts that may be paired.
        self.names = [name for name in sorted(self.behind[2])
                      if name in self.ahead[2] and self.ahead[2][name][1] == self.behind[2][name][1]]

    def turning_by(self, free):
        """The turning where such boxes and fields are free."""
        return Turning(self.ahead, self.behind, self.change, free)
