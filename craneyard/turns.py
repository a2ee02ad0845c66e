"""Turns: whose job is the eldest has the right of way, and all others give way."""

from craneyard.crews import COMING
from craneyard.moves import moved


def ranks(yard):
    """A list of all cranes: those with jobs by their present jobs' numbers, then the others by their own."""
    return list(yard.crew.order)


def goal(yard, crane):
    """The place of the stack from which the crane takes, coming, or to which it brings, bringing; else None."""
    yard.ask_crane(crane)
    return yard.crew.goals[crane]


def turn(yard):
    """A list of the places behind one turn of the yard."""
    yard.settle(turn_to(yard.crew, row_behind(yard.crew)))
    return yard.places()


def gone_on(yard, many):
    """So many turns of the yard."""
    for _ in range(many):
        turn(yard)


def row_behind(crew):
    """A list of the places to which all cranes go in the next turn."""
    return moved(crew.rail, crew.row, crew.at_work(), crew.goals, crew.order)


def turn_to(crew, row):
    """A turn in which all cranes go to this row; a list of the work that is over by it: tuples (NUMBER, WORD)."""
    over = crew.go(row)
    for crane in crew.order:
        if crew.goals[crane] == crew.row[crane] and hindrance(crew, crane) is None:
            crew.begin(crane)
    return over


def hindrance(crew, crane):
    """Why the crane, which stands at its goal, may not begin: ("job", NUMBER), ("way", CRANE), or None."""
    number = crew.queues[crane][0]
    if crew.words[crane] == COMING:
        met = crew.first_met(number)
        if met is not None:
            return "job", met
    for other, needed in enumerate(crew.goals):
        if needed is not None and crew.queues[other][0] < number and _is_in_way(crew, crane, other, needed):
            return "way", other
    return None


def _is_in_way(crew, crane, other, needed):
    """Whether the crane stands where the other one, whose job is the elder, needs to be or needs the room."""
    nearest = crew.row[crane] + (other - crane) * crew.rail.room
    return needed > nearest if other < crane else needed < nearest
