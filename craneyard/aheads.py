"""Going ahead of a crew: what comes, if nothing is given."""

from craneyard.courses import glide
from craneyard.crews import LOWERING
from craneyard.turns import row_behind, turn_to

# Fewer turns than these are gone sooner one by one than at once.
LEAST_GLIDE = 8


class Ahead:
    """A crew alike that is ahead by as many turns as anyone asked for, and the turns in which its jobs were done.

    Turns are numbered on from those of the crew, so all of it stays true when the crew itself goes on.
    """

    def __init__(self, crew):
        self._crew = crew.copied()
        self._began = crew.turns
        self._dones = {}

    def gone(self):
        """How many turns have gone here."""
        return self._crew.turns

    def places_behind(self, last):
        """A list of the places behind the last turn, which hasn't gone here yet or is the latest one."""
        while self._crew.turns < last:
            self._go(last - self._crew.turns)
        return list(self._crew.row)

    def turn_done(self, number, last):
        """The turn in which this job, not done at the beginning, is done, or None where it isn't by the last one."""
        # Turns that have gone here are not gone again: whatever was done in them has been written down.
        while number not in self._dones and self._crew.turns < last:
            self._go(last - self._crew.turns)
        done = self._dones.get(number, last + 1)
        return done if done <= last else None

    def _go(self, most):
        """One turn, or many at once, but so many at the most."""
        crew = self._crew
        row = row_behind(crew)
        many = self._even_turns(row, most)
        if many > 0:
            crew.go([old + many * (new - old) for old, new in zip(crew.row, row)], many)
            return
        for number, word in turn_to(crew, row):
            if word == LOWERING:
                self._dones[number] = crew.turns

    def _even_turns(self, row, most):
        """How many turns can go at once, as all cranes go on evenly as they go to this row, else 0.

        No work begins or ends in them: one that stands at its goal was told in the turn before that it may not begin,
        and would be told so in each of these. That is why one turn has to go ahead of them.
        """
        crew = self._crew
        if most < LEAST_GLIDE or crew.turns == self._began:
            return 0
        steps = [new - old for old, new in zip(crew.row, row)]
        works = [left - 1 for left in crew.lefts if left > 0]
        ways = [_turns_short_of(*way, most) for way in zip(crew.goals, crew.row, steps)]
        many = min([most] + works + ways)
        if many < LEAST_GLIDE:
            return 0
        # Turn by turn a long way would take too long.
        _, alike = glide(crew.rail, crew.row, crew.at_work(), crew.goals, crew.order, many)
        return alike


def _turns_short_of(needed, place, step, most):
    """In how many turns, of so many at the most, one that goes evenly does not come to the place it needs."""
    if needed is None or (needed - place) * step <= 0:
        return most
    return min(most, (abs(needed - place) - 1) // abs(step))
