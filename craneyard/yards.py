"""Yards: cranes on a rail above stacks, their jobs, and what they are doing."""

from craneyard.errors import BadPlaces, NoCrane, NoReach
from craneyard.plans import Plan
from craneyard.words import is_among

FREE = "free"
COMING = "coming"
LIFTING = "lifting"
BRINGING = "bringing"
LOWERING = "lowering"


class Yard:
    """A rail, its cranes at their places, stacks, and jobs that are given to the cranes."""

    def __init__(self, rail, stacks, places):
        if not rail.are_apart(places):
            raise BadPlaces("these are no places that are apart")
        if not all([stacks.place_of(name) <= rail.end for name in stacks.names()]):
            raise BadPlaces("a stack has no place of the rail")
        self.rail = rail
        self._stacks = stacks.copied()
        self._plan = Plan(stacks)
        self._places = list(places)
        self._givings = []
        self._dones = []
        self._queues = [[] for _ in places]
        self._words = [FREE for _ in places]
        self._lefts = [0 for _ in places]
        self._held = [None for _ in places]
        self._turns = 0

    def give(self, box, stack, crane=None):
        """The number of the new job, which brings this box to this stack."""
        if crane is not None:
            self._ask_crane(crane)
        origin = self._plan.origin_of(box, stack)
        chosen = self._chosen(origin, stack, crane)
        number = self._plan.add(box, stack)
        self._givings.append(chosen)
        self._dones.append(False)
        self._queues[chosen].append(number)
        if self._words[chosen] == FREE:
            self._words[chosen] = COMING
        return number

    def places(self):
        """A list of the places of all cranes."""
        return list(self._places)

    def jobs_of(self, crane):
        """A list of the numbers of the crane's jobs that aren't done, rising."""
        self._ask_crane(crane)
        return list(self._queues[crane])

    def phase(self, crane):
        """A tuple (WORD, TURNS): what the crane is doing, and the turns that are left at work, else 0."""
        self._ask_crane(crane)
        return self._words[crane], self._lefts[crane]

    def holds(self, crane):
        """The name of the box that the crane holds, or None."""
        self._ask_crane(crane)
        held = self._held[crane]
        return None if held is None else held[0]

    def stacks(self):
        """The stacks as they are."""
        return self._stacks.copied()

    def job(self, number):
        """A tuple (BOX, FROM, TO)."""
        return self._plan.job(number)

    def crane_of(self, number):
        """The crane to which this job was given."""
        self._plan.job(number)
        return self._givings[number]

    def is_done(self, number):
        """Whether this job is done."""
        self._plan.job(number)
        return self._dones[number]

    def many_jobs(self):
        """How many jobs have been given."""
        return self._plan.many()

    def many_turns(self):
        """How many turns have gone."""
        return self._turns

    def copied(self):
        """A yard alike, which goes on by itself."""
        alike = Yard(self.rail, self._stacks, self._places)
        alike._plan = self._plan.copied()
        alike._givings = list(self._givings)
        alike._dones = list(self._dones)
        alike._queues = [list(queue) for queue in self._queues]
        alike._words = list(self._words)
        alike._lefts = list(self._lefts)
        alike._held = list(self._held)
        alike._turns = self._turns
        return alike

    # What follows serves craneyard.turns, which tells when it is due; cranes and jobs there are known ones.

    def present(self, crane):
        """The number of the crane's present job, or None."""
        queue = self._queues[crane]
        return queue[0] if queue else None

    def undone(self):
        """A list of the numbers of all jobs that aren't done, rising."""
        return sorted([number for queue in self._queues for number in queue])

    def meet(self, one, other):
        """Whether two jobs have a stack in common."""
        return self._plan.meet(one, other)

    def place_of(self, stack):
        """The place of this stack."""
        return self._stacks.place_of(stack)

    def go(self, places, many=1):
        """Turns go by, of which at most the last one ends any work: all cranes stand at these places behind them."""
        self._turns += many
        self._places = list(places)
        for crane in range(len(places)):
            if self._lefts[crane] > 0:
                self._lefts[crane] -= many
                if self._lefts[crane] == 0:
                    self._end_work(crane)

    def begin(self, crane):
        """A crane that is coming lifts from now on, one that is bringing lowers."""
        self._words[crane] = LIFTING if self._words[crane] == COMING else LOWERING
        self._lefts[crane] = self.rail.cranes[crane][1]

    def _end_work(self, crane):
        number = self._queues[crane][0]
        _, origin, stack = self._plan.job(number)
        if self._words[crane] == LIFTING:
            self._held[crane] = self._stacks.take(origin)
            self._words[crane] = BRINGING
            return
        box, weight = self._held[crane]
        self._stacks.put(box, weight, stack)
        self._held[crane] = None
        self._dones[number] = True
        del self._queues[crane][0]
        self._words[crane] = COMING if self._queues[crane] else FREE

    def _chosen(self, origin, stack, crane):
        """The crane that gets a job between these stacks: the one that is told, or of all, for None."""
        cranes = list(range(len(self._places))) if crane is None else [crane]
        able = [one for one in cranes if self._reaches(one, origin) and self._reaches(one, stack)]
        if not able:
            raise NoReach("no such crane reaches both stacks")
        return min(able, key=lambda one: len(self._queues[one]))

    def _reaches(self, crane, stack):
        first, last = self.rail.reach(crane)
        return first <= self._stacks.place_of(stack) <= last

    def _ask_crane(self, thing):
        if not is_among(thing, 0, len(self._places) - 1):
            raise NoCrane("there is no such crane")
