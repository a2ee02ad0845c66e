"""A crew: all cranes of a yard, their jobs, and what they are doing. Boxes are no matter of it.

That is all that turns go by, and little enough to be copied whenever anyone looks ahead.
"""

FREE = "free"
COMING = "coming"
LIFTING = "lifting"
BRINGING = "bringing"
LOWERING = "lowering"


class Crew:
    """Cranes at their places, and jobs (CRANE, FROM, TO) between places, at each of which there is one stack."""

    def __init__(self, rail, row):
        many = len(row)
        self.rail = rail
        self.row = list(row)
        self.turns = 0
        self.jobs = []
        # The jobs that aren't done, rising: those of each crane, and those that meet at each place.
        self.queues = [[] for _ in row]
        self.meetings = {}
        self.words = [FREE] * many
        self.lefts = [0] * many
        # What follows could be told by the rest, and is kept as it is asked for in each turn.
        self.goals = [None] * many
        self.order = list(range(many))

    def copied(self):
        """A crew alike, which goes on by itself."""
        alike = Crew(self.rail, self.row)
        alike.turns = self.turns
        alike.jobs = list(self.jobs)
        alike.queues = [list(queue) for queue in self.queues]
        alike.meetings = {place: list(numbers) for place, numbers in self.meetings.items()}
        alike.words = list(self.words)
        alike.lefts = list(self.lefts)
        alike.goals = list(self.goals)
        alike.order = list(self.order)
        return alike

    def add(self, crane, origin, target):
        """A new job of this crane, behind all others."""
        number = len(self.jobs)
        self.jobs.append((crane, origin, target))
        self.queues[crane].append(number)
        for place in (origin, target):
            self.meetings.setdefault(place, []).append(number)
        if self.words[crane] == FREE:
            self._take_next(crane)

    def is_done(self, number):
        """Whether this job is done."""
        queue = self.queues[self.jobs[number][0]]
        return not queue or number < queue[0]

    def undone(self):
        """A list of the numbers of all jobs that aren't done, rising."""
        return sorted([number for queue in self.queues for number in queue])

    def first_met(self, number):
        """The first job that isn't done, has a lesser number and meets this one, or None."""
        _, origin, target = self.jobs[number]
        # The job itself is among those at both places.
        first = min(self.meetings[origin][0], self.meetings[target][0])
        return first if first < number else None

    def at_work(self):
        """A list of truths: which cranes are lifting or lowering."""
        return [left > 0 for left in self.lefts]

    def begin(self, crane):
        """A crane that is coming lifts from now on, one that is bringing lowers."""
        self.words[crane] = LIFTING if self.words[crane] == COMING else LOWERING
        self.lefts[crane] = self.rail.cranes[crane][1]
        self.goals[crane] = None

    def go(self, row, many=1):
        """Turns go by, of which at most the last one ends any work: all cranes stand in this row behind them.

        A list of the work that is over by them: tuples (NUMBER, WORD).
        """
        self.turns += many
        self.row = list(row)
        ended = [crane for crane, left in enumerate(self.lefts) if left == many]
        self.lefts = [left - many if left > 0 else 0 for left in self.lefts]
        over = [(self.queues[crane][0], self.words[crane]) for crane in ended]
        for crane in ended:
            self._end_work(crane)
        return over

    def _end_work(self, crane):
        number = self.queues[crane][0]
        _, origin, target = self.jobs[number]
        if self.words[crane] == LIFTING:
            self.words[crane] = BRINGING
            self.goals[crane] = target
            return
        del self.queues[crane][0]
        for place in (origin, target):
            self.meetings[place].remove(number)
        self._take_next(crane)

    def _take_next(self, crane):
        """The crane's first job that isn't done, if it has one, is its present one from now on."""
        queue = self.queues[crane]
        self.words[crane] = COMING if queue else FREE
        self.goals[crane] = self.jobs[queue[0]][1] if queue else None
        presents = sorted([queue[0] for queue in self.queues if queue])
        idle = [other for other, queue in enumerate(self.queues) if not queue]
        self.order = [self.jobs[number][0] for number in presents] + idle
