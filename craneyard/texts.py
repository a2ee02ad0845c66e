"""Texts that write a yard: a row for the rail, then one for each crane, for each stack, and for each box."""

from craneyard.errors import BadRail, BadStack, BadText, CraneError
from craneyard.rails import GREATEST_END, GREATEST_HOIST, GREATEST_ROOM, GREATEST_SPEED, MOST_CRANES, Rail
from craneyard.stacks import Stacks
from craneyard.words import GREATEST_NUMBER, is_among, number_of, words_of
from craneyard.yards import Yard


def yard_of(text):
    """The yard that this text writes, without jobs."""
    if not isinstance(text, str):
        raise BadText(0)
    rows = [words_of(row) for row in text.split("\n")]
    end, room = _numbers(_fields(rows, 0, "rail", 2), [(1, GREATEST_END), (1, GREATEST_ROOM)], 0)
    behind_cranes = _behind(rows, 1, "crane")
    rail, places = _rail_of(end, room, rows, behind_cranes)
    behind_stacks = _behind(rows, behind_cranes, "stack")
    stacks = _stacks_of(rows, behind_cranes, behind_stacks, end)
    for at in range(behind_stacks, len(rows)):
        _put_box(stacks, rows, at)
    return Yard(rail, stacks, places)


def _behind(rows, first, kind):
    """The number of the row behind the last one of a kind, of which the rows from the first on are."""
    at = first
    while at < len(rows) and rows[at][:1] == [kind]:
        at += 1
    return at


def _rail_of(end, room, rows, behind):
    """A tuple of the rail and the places of its cranes, whose rows stand ahead of this one."""
    told = [_crane_of(rows, at) for at in range(1, behind)]
    places = [place for _, _, place in told]
    try:
        rail = Rail(end, room, [(speed, hoist) for speed, hoist, _ in told])
    except BadRail:
        raise BadText(behind) from None
    if not rail.are_apart(places):
        raise BadText(behind)
    return rail, places


def _crane_of(rows, at):
    """A list of the speed, the hoist and the place of the crane in this row."""
    if at > MOST_CRANES:
        raise BadText(at)
    bounds = [(1, GREATEST_SPEED), (1, GREATEST_HOIST), (0, GREATEST_NUMBER)]
    return _numbers(_fields(rows, at, "crane", 3), bounds, at)


def _stacks_of(rows, first, behind, end):
    """The stacks of these rows, without boxes."""
    told = []
    stacks = None
    for at in range(first, behind):
        name, place, high, weight = _fields(rows, at, "stack", 4)
        told.append((name, number_of(place), number_of(high), number_of(weight)))
        if not is_among(number_of(place), 0, end):
            raise BadText(at)
        # Made anew with each row, so that a refusal tells the row.
        try:
            stacks = Stacks(told)
        except BadStack:
            raise BadText(at) from None
    if stacks is None:
        raise BadText(behind)
    return stacks


def _put_box(stacks, rows, at):
    box, weight, stack = _fields(rows, at, "box", 3)
    try:
        stacks.put(box, number_of(weight), stack)
    except CraneError:
        raise BadText(at) from None


def _fields(rows, at, kind, many):
    """The words of a row of this kind behind its first one, so many of them."""
    words = rows[at]
    if words[:1] != [kind] or len(words) != many + 1:
        raise BadText(at)
    return words[1:]


def _numbers(words, bounds, at):
    """The numbers that the words of a row write, each within its bounds (LEAST, MOST)."""
    numbers = [number_of(word) for word in words]
    for number, (least, most) in zip(numbers, bounds):
        if not is_among(number, least, most):
            raise BadText(at)
    return numbers
