"""Looking ahead: what comes, if nothing is given."""

from craneyard.aheads import Ahead
from craneyard.turns import goal, hindrance


def bound(yard, number):
    """Within how many turns this job is done, come what may; 0 of one that is done."""
    if yard.is_done(number):
        return 0
    hoists = [hoist for _, hoist in yard.rail.cranes]
    of_each = 2 * yard.rail.end + 2 * max(hoists)
    due = [job for job in yard.crew.undone() if job <= number]
    return sum([of_each + 2 * hoists[yard.crane_of(job)] for job in due])


def when_done(yard, number, most):
    """In how many turns this job is done, 0 where it is, None where it isn't within so many."""
    if yard.is_done(number):
        return 0
    now = yard.many_turns()
    if yard.ahead is None or yard.ahead.gone() < now:
        yard.ahead = Ahead(yard.crew)
    done = yard.ahead.turn_done(number, now + most)
    return None if done is None else done - now


def places_in(yard, many):
    """A list of the places in so many turns."""
    return Ahead(yard.crew).places_behind(yard.many_turns() + many)


def why(yard, crane):
    """Why a crane that stands at its goal could not begin: ("job", NUMBER), ("way", CRANE), or None."""
    # The goal comes first: it refuses what is no crane.
    stands = goal(yard, crane) == yard.crew.row[crane]
    return hindrance(yard.crew, crane) if stands else None
