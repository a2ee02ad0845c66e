"""Plans: jobs by their numbers, and the stacks as they will be once all of them are done."""

from craneyard.errors import Buried, NoJob, Same
from craneyard.words import is_among


class Plan:
    """Jobs (BOX, FROM, TO), numbered from 0 as they come."""

    def __init__(self, stacks):
        self._planned = stacks.copied()
        self._jobs = []

    def add(self, box, stack):
        """The number of the new job, which brings this box to this stack."""
        origin, behind = self._tried(box, stack)
        self._planned = behind
        self._jobs.append((box, origin, stack))
        return len(self._jobs) - 1

    def origin_of(self, box, stack):
        """The stack from which add would take the box; it refuses what add refuses, and changes nothing."""
        origin, _ = self._tried(box, stack)
        return origin

    def job(self, number):
        """A tuple (BOX, FROM, TO)."""
        if not is_among(number, 0, len(self._jobs) - 1):
            raise NoJob("there is no such job")
        return self._jobs[number]

    def many(self):
        """How many jobs there are."""
        return len(self._jobs)

    def planned(self):
        """The stacks as they will be once all jobs are done."""
        return self._planned.copied()

    def meet(self, one, other):
        """Whether two jobs have a stack in common."""
        _, first, second = self.job(one)
        _, third, fourth = self.job(other)
        return first in (third, fourth) or second in (third, fourth)

    def copied(self):
        """A plan alike, which goes on by itself."""
        alike = Plan(self._planned)
        alike._jobs = list(self._jobs)
        return alike

    def _tried(self, box, stack):
        """The stack on which the box lies, and the stacks as they would be behind the job."""
        origin = self._planned.where(box)
        # Asked for its place only to be refused if there is no such stack.
        self._planned.place_of(stack)
        if stack == origin:
            raise Same("this box lies there already")
        if not self._planned.is_top(box):
            raise Buried("this box isn't the uppermost one")
        behind = self._planned.copied()
        _, weight = behind.take(origin)
        behind.put(box, weight, stack)
        return origin, behind
