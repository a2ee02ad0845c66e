"""Turns: whose job is the eldest has the right of way, and all others give way."""

from craneyard.moves import moved
from craneyard.yards import BRINGING, COMING


def ranks(yard):
    """A list of all cranes: those with jobs by their present jobs' numbers, then the others by their own."""
    busy = [crane for crane in _cranes(yard) if yard.present(crane) is not None]
    idle = [crane for crane in _cranes(yard) if yard.present(crane) is None]
    return sorted(busy, key=lambda crane: yard.present(crane)) + idle


def goal(yard, crane):
    """The place of the stack from which the crane takes, coming, or to which it brings, bringing; else None."""
    word, _ = yard.phase(crane)
    if word not in (COMING, BRINGING):
        return None
    _, origin, stack = yard.job(yard.present(crane))
    return yard.place_of(origin if word == COMING else stack)


def turn(yard):
    """A list of the places behind one turn of the yard."""
    at_work = [yard.phase(crane)[1] > 0 for crane in _cranes(yard)]
    goals = [goal(yard, crane) for crane in _cranes(yard)]
    yard.go(moved(yard.rail, yard.places(), at_work, goals, ranks(yard)))
    for crane in ranks(yard):
        if stands_at_goal(yard, crane) and _may_begin(yard, crane):
            yard.begin(crane)
    return yard.places()


def gone_on(yard, many):
    """So many turns of the yard."""
    for _ in range(many):
        turn(yard)


def stands_at_goal(yard, crane):
    """Whether the crane is coming or bringing, and is where it comes or brings to."""
    return yard.places()[crane] == goal(yard, crane)


def first_met(yard, crane):
    """The first job that isn't done, has a lesser number than the crane's present one and meets it, or None."""
    present = yard.present(crane)
    for number in yard.undone():
        if number < present and yard.meet(number, present):
            return number
    return None


def first_hindered(yard, crane):
    """The first crane in whose way this one, which has a job, stands, or None."""
    for other in _cranes(yard):
        if other != crane and _is_in_way(yard, crane, other):
            return other
    return None


def _may_begin(yard, crane):
    if yard.phase(crane)[0] == COMING and first_met(yard, crane) is not None:
        return False
    return first_hindered(yard, crane) is None


def _is_in_way(yard, crane, other):
    """Whether the crane stands where the other one, whose job is the elder, needs to be or needs the room."""
    elder = yard.present(other)
    if elder is None or elder > yard.present(crane):
        return False
    needed = goal(yard, other)
    if needed is None:
        return False
    nearest = yard.places()[crane] + (other - crane) * yard.rail.room
    return needed > nearest if other < crane else needed < nearest


def _cranes(yard):
    """The numbers of all cranes."""
    return list(range(len(yard.rail.cranes)))
