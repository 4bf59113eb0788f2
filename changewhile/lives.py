"""Live runs: programs that are changed while they run."""

from changewhile.changes import changed
from changewhile.errors import NoFit, NoLead, NotNow, NotRight
from changewhile.papers import own_papers, papers_of
from changewhile.rests import beginning, rest_of
from changewhile.runs import Run
from changewhile.states import begun


class Live:
    """A run of a program that may be changed at marks while it goes on."""

    def __init__(self, program, start, values):
        kinds, boxes, parts = program
        # The papers of the program of now, grown from row 0.
        self.papers = papers_of(program)
        self.run = Run((dict(kinds), dict(boxes), dict(parts)), begun(program, start, values))
        paper = self.papers[start]
        # Of each frame its own paper, and what is held at its row by the paper that it had when it came there:
        # the rest's paper of a later change says nothing of that row.
        self.own = [paper]
        self.came_with = [paper[0]]
        # Pairs (change, way); and the program behind the first one of them and rests by it, as far as they are known.
        self.waiters = []
        self.behind_first = None
        self.first_rests = []
        self.drops = 0

    def program(self):
        """The program of now."""
        return self.run.program()

    def state(self):
        """The state of now, all led over; this wakes nothing."""
        return self.run.state()

    def mark(self):
        """The name of the mark at which the run is, or None."""
        if self.run.end is not None:
            return None
        _, part, r, _ = self.run.frames[-1]
        return part[2][r][1] if part[2][r][0] == "mark" else None

    def step(self):
        """Let in at a mark what waits and may come in, and do a step; an ended run stays."""
        self._let_in_waiting()
        if self.run.end is None:
            many = len(self.run.frames)
            self.run.step()
            self._follow(many)

    def _follow(self, many):
        """Keep the papers beside the frames, of which there were so many ahead of a step."""
        frames = self.run.frames
        if len(frames) > many:
            paper = self.papers[frames[-1][0]]
            self.own.append(paper)
            self.came_with.append(paper[0])
            return
        if len(frames) < many:
            self.own.pop()
            self.came_with.pop()
        if self.run.end is None:
            self.came_with[-1] = self.own[-1][frames[-1][2]]

    def look(self, change):
        """A tuple of papers, one for each frame; else NoFit, NoLead, NotRight or NotNow."""
        return tuple(self._rests(changed(self.run.program(), change), []))

    def _rests(self, behind, known):
        """A list of the papers of all frames' rests by the program behind a change; else NotNow.

        With a list of the rests that are known, to which others are added.
        """
        if self.mark() is None:
            raise NotNow(-1, -1)
        frames = self.run.frames
        papers = []
        # Calls that call themselves have many frames with one rest: it is grown once.
        for k, (_, part, r, _) in enumerate(frames):
            given = frames[k + 1][1][1] if k + 1 < len(frames) else None
            begins = beginning(part[2][r], self.came_with[k], given)
            paper = _known_rest(known, part, r, begins)
            if paper is None:
                paper, wrong = rest_of(behind, part, r, begins)
                if wrong is not None:
                    raise NotNow(k, wrong)
                known.append((part, r, begins, paper))
            papers.append(paper)
        return papers

    def enter(self, change, way="once"):
        """Let a change come in now, by way "once" or "touch"; else NoFit, NoLead, NotRight or NotNow."""
        self._go_by(changed(self.run.program(), change), [], change, way)

    def _go_by(self, behind, known, change, way):
        """Let a change come in, behind which a program is, with a list of known rests; else NotNow."""
        self.own = self._rests(behind, known)
        self.run.standing.lead_over(self.run.program(), change, way)
        self.run.go_by(behind)
        self.papers = own_papers(behind)
        self._forget_first()

    def asleep(self):
        """The names of the boxes and the refs that sleep, sorted."""
        return self.run.standing.asleep()

    def old(self):
        """The numbers of the frames whose part is not the program's part of that name, rising."""
        parts = self.run.parts
        return [k for k, (name, part, _, _) in enumerate(self.run.frames) if name not in parts or parts[name] != part]

    def wait(self, change, way="once"):
        """Let a change wait, behind all that wait, for a mark at which it may come in."""
        outs, kinds, boxes, parts, kindleads, boxleads = change
        copied = (outs, dict(kinds), dict(boxes), dict(parts), dict(kindleads), dict(boxleads))
        self.waiters.append((copied, way))

    def _let_in_waiting(self):
        """Let in, at a mark, the changes that wait, up to one that may not come in now."""
        while self.waiters and self.mark() is not None:
            try:
                self._let_in_first()
            except NotNow:
                return
            except (NoFit, NoLead, NotRight):
                self.drops += 1
            self.waiters.pop(0)
            self._forget_first()

    def _let_in_first(self):
        # What waits long is looked at again and again: the program behind it is made once, and so are the rests.
        change, way = self.waiters[0]
        if self.behind_first is None:
            self.behind_first = changed(self.run.program(), change)
        self._go_by(self.behind_first, self.first_rests, change, way)

    def _forget_first(self):
        """Forget what is known of the change that waits first: it is another one, or for another program."""
        self.behind_first = None
        self.first_rests = []

    def waiting(self):
        """How many changes wait."""
        return len(self.waiters)

    def dropped(self):
        """How many changes that waited were refused for good."""
        return self.drops


def _known_rest(known, part, r, begins):
    """The paper of a rest that is among the known ones, or None."""
    for one_part, one_row, one_beginning, paper in known:
        if one_row == r and one_beginning == begins and one_part == part:
            return paper
    return None
