"""Looking ahead: what comes, if nothing is given."""

from craneyard.courses import glide
from craneyard.turns import goal, gone_on, hindrance, ranks, stands_at_goal, turn


def bound(yard, number):
    """Within how many turns this job is done, come what may; 0 of one that is done."""
    if yard.is_done(number):
        return 0
    cranes = yard.rail.cranes
    of_each = 2 * yard.rail.end + 2 * max([hoist for _, hoist in cranes])
    due = [job for job in yard.undone() if job <= number]
    return sum([of_each + 2 * cranes[yard.crane_of(job)][1] for job in due])


def when_done(yard, number, most):
    """In how many turns this job is done, 0 where it is, None where it isn't within so many."""
    ahead = yard.copied()
    gone = 0
    while not ahead.is_done(number):
        # Turn by turn a long way would take too long.
        if gone > 0:
            gone += _hastened(ahead, most - gone)
        if gone >= most:
            return None
        turn(ahead)
        gone += 1
    return gone


def places_in(yard, many):
    """A list of the places in so many turns."""
    ahead = yard.copied()
    gone_on(ahead, many)
    return ahead.places()


def why(yard, crane):
    """Why a crane that stands at its goal could not begin: ("job", NUMBER), ("way", CRANE), or None."""
    return hindrance(yard, crane) if stands_at_goal(yard, crane) else None


def _hastened(yard, most):
    """Let turns go at once, so many at the most, in which all cranes go evenly; tell how many they were.

    No work begins or ends in them: one that stands at its goal was told in the turn before that it may not begin,
    and would be told so in each of these. That is why a turn has to go ahead of them.
    """
    places = yard.places()
    cranes = list(range(len(places)))
    goals = [goal(yard, crane) for crane in cranes]
    lefts = [yard.phase(crane)[1] for crane in cranes]
    many = min([most] + [left - 1 for left in lefts if left > 0])
    if many < 1:
        return 0
    steps, many = glide(yard.rail, places, [left > 0 for left in lefts], goals, ranks(yard), many)
    many = min([many] + [_turns_short_of(goals[crane], places[crane], steps[crane], many) for crane in cranes])
    yard.go([place + many * step for place, step in zip(places, steps)], many)
    return many


def _turns_short_of(needed, place, step, most):
    """In how many turns, of so many at the most, one that goes evenly does not come to the place it needs."""
    if needed is None or (needed - place) * step <= 0:
        return most
    return min(most, (abs(needed - place) - 1) // abs(step))
