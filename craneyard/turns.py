"""Turns: whose job is the eldest has the right of way, and all others give way."""

from craneyard.moves import moved
from craneyard.yards import BRINGING, COMING


def ranks(yard):
    """A list of all cranes: those with jobs by their present jobs' numbers, then the others by their own."""
    busy = [crane for crane in _cranes(yard) if yard.present(crane) is not None]
    idle = [crane for crane in _cranes(yard) if yard.present(crane) is None]
    return sorted(busy, key=lambda crane: yard.present(crane)) + idle


def goal(yard, crane):
    """The place of the stack from which the crane takes, coming, or to which it brings, bringing; else None."""
    word, _ = yard.phase(crane)
    if word not in (COMING, BRINGING):
        return None
    _, origin, stack = yard.job(yard.present(crane))
    return yard.place_of(origin if word == COMING else stack)


def turn(yard):
    """A list of the places behind one turn of the yard."""
    at_work = [yard.phase(crane)[1] > 0 for crane in _cranes(yard)]
    goals = [goal(yard, crane) for crane in _cranes(yard)]
    yard.go(moved(yard.rail, yard.places(), at_work, goals, ranks(yard)))
    for crane in ranks(yard):
        if stands_at_goal(yard, crane) and hindrance(yard, crane) is None:
            yard.begin(crane)
    return yard.places()


def gone_on(yard, many):
    """So many turns of the yard."""
    for _ in range(many):
        turn(yard)


def stands_at_goal(yard, crane):
    """Whether the crane is coming or bringing, and is where it comes or brings to."""
    # The goal comes first: it refuses what is no crane.
    return goal(yard, crane) == yard.places()[crane]


def hindrance(yard, crane):
    """Why the crane, which is coming or bringing, may not begin: ("job", NUMBER), ("way", CRANE), or None."""
    if yard.phase(crane)[0] == COMING:
        met = _first_met(yard, yard.present(crane))
        if met is not None:
            return "job", met
    for other in _cranes(yard):
        if _is_in_way(yard, crane, other):
            return "way", other
    return None


def _first_met(yard, number):
    """The first job that isn't done, has a lesser number and meets this one, or None."""
    for other in yard.undone():
        if other >= number:
            return None
        if yard.meet(other, number):
            return other
    return None


def _is_in_way(yard, crane, other):
    """Whether the crane stands where the other one, whose job is the elder, needs to be or needs the room."""
    elder = yard.present(other)
    if elder is None or elder >= yard.present(crane):
        return False
    needed = goal(yard, other)
    if needed is None:
        return False
    nearest = yard.places()[crane] + (other - crane) * yard.rail.room
    return needed > nearest if other < crane else needed < nearest


def _cranes(yard):
    """The numbers of all cranes."""
    return list(range(len(yard.rail.cranes)))
