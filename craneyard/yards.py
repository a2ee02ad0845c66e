"""Yards: cranes on a rail above stacks, their jobs, and what they are doing."""

from craneyard.crews import LIFTING, Crew
from craneyard.errors import BadPlaces, NoCrane, NoReach
from craneyard.plans import Plan
from craneyard.words import is_among


class Yard:
    """A rail, its cranes at their places, stacks, and jobs that are given to the cranes."""

    def __init__(self, rail, stacks, places):
        if not rail.are_apart(places):
            raise BadPlaces("these are no places that are apart")
        if stacks.farthest() > rail.end:
            raise BadPlaces("a stack has no place of the rail")
        self.rail = rail
        self.crew = Crew(rail, places)
        self._stacks = stacks.copied()
        self._plan = Plan(stacks)
        self._held = [None for _ in places]
        # What craneyard.forecast has found out, or None: it stays true till a job is given.
        self.ahead = None

    def give(self, box, stack, crane=None):
        """The number of the new job, which brings this box to this stack."""
        if crane is not None:
            self.ask_crane(crane)
        origin = self._plan.origin_of(box, stack)
        chosen = self._chosen(origin, stack, crane)
        number = self._plan.add(box, stack)
        self.ahead = None
        self.crew.add(chosen, self._stacks.place_of(origin), self._stacks.place_of(stack))
        return number

    def places(self):
        """A list of the places of all cranes."""
        return list(self.crew.row)

    def jobs_of(self, crane):
        """A list of the numbers of the crane's jobs that aren't done, rising."""
        self.ask_crane(crane)
        return list(self.crew.queues[crane])

    def phase(self, crane):
        """A tuple (WORD, TURNS): what the crane is doing, and the turns that are left at work, else 0."""
        self.ask_crane(crane)
        return self.crew.words[crane], self.crew.lefts[crane]

    def holds(self, crane):
        """The name of the box that the crane holds, or None."""
        self.ask_crane(crane)
        held = self._held[crane]
        return None if held is None else held[0]

    def stacks(self):
        """The stacks as they are."""
        return self._stacks.copied()

    def job(self, number):
        """A tuple (BOX, FROM, TO)."""
        return self._plan.job(number)

    def crane_of(self, number):
        """The crane to which this job was given."""
        self._plan.job(number)
        return self.crew.jobs[number][0]

    def is_done(self, number):
        """Whether this job is done."""
        self._plan.job(number)
        return self.crew.is_done(number)

    def many_jobs(self):
        """How many jobs have been given."""
        return self._plan.many()

    def many_turns(self):
        """How many turns have gone."""
        return self.crew.turns

    def copied(self):
        """A yard alike, which goes on by itself."""
        alike = Yard(self.rail, self._stacks, self.crew.row)
        alike.crew = self.crew.copied()
        alike._plan = self._plan.copied()
        alike._held = list(self._held)
        return alike

    # What follows serves craneyard.turns.

    def ask_crane(self, thing):
        """Refuse what is no crane's number."""
        if not is_among(thing, 0, len(self.crew.row) - 1):
            raise NoCrane("there is no such crane")

    def settle(self, over):
        """Boxes come to lie where the work (NUMBER, WORD) that is over has brought them."""
        for number, word in over:
            crane = self.crew.jobs[number][0]
            _, origin, stack = self._plan.job(number)
            if word == LIFTING:
                self._held[crane] = self._stacks.take(origin)
            else:
                box, weight = self._held[crane]
                self._stacks.put(box, weight, stack)
                self._held[crane] = None

    def _chosen(self, origin, stack, crane):
        """The crane that gets a job between these stacks: the one that is told, or of all, for None."""
        cranes = list(range(len(self.crew.row))) if crane is None else [crane]
        able = [one for one in cranes if self._reaches(one, origin) and self._reaches(one, stack)]
        if not able:
            raise NoReach("no such crane reaches both stacks")
        return min(able, key=lambda one: len(self.crew.queues[one]))

    def _reaches(self, crane, stack):
        first, last = self.rail.reach(crane)
        return first <= self._stacks.place_of(stack) <= last
