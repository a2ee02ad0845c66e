"""A rail: its places, its cranes, and the room that they keep."""

from craneyard.errors import BadRail, NoCrane
from craneyard.words import is_among

GREATEST_END = 10 ** 12
GREATEST_ROOM = 10 ** 6
MOST_CRANES = 6
GREATEST_SPEED = 10 ** 9
GREATEST_HOIST = 1000


class Rail:
    """Places from 0 to end, and cranes (SPEED, HOIST) that keep a room."""

    def __init__(self, end, room, cranes):
        if not _is_rail(end, room, cranes):
            raise BadRail("there is no such rail")
        self.end = end
        self.room = room
        self.cranes = tuple([(speed, hoist) for speed, hoist in cranes])

    def reach(self, crane):
        """A tuple of the first and the last place that this crane can reach."""
        last = len(self.cranes) - 1
        if not is_among(crane, 0, last):
            raise NoCrane("there is no such crane")
        return crane * self.room, self.end - (last - crane) * self.room

    def are_apart(self, places):
        """Whether this is a list of places, one for each crane, that are apart."""
        if not isinstance(places, list) or len(places) != len(self.cranes):
            return False
        least = 0
        for place in places:
            if not is_among(place, least, self.end):
                return False
            least = place + self.room
        return True


def _is_rail(end, room, cranes):
    if not is_among(end, 1, GREATEST_END) or not is_among(room, 1, GREATEST_ROOM):
        return False
    if not isinstance(cranes, list) or not 1 <= len(cranes) <= MOST_CRANES:
        return False
    if not all([_is_crane(crane) for crane in cranes]):
        return False
    # Standing as near as may be, the cranes need this much of the rail.
    return (len(cranes) - 1) * room <= end


def _is_crane(thing):
    if not isinstance(thing, tuple) or len(thing) != 2:
        return False
    speed, hoist = thing
    return is_among(speed, 1, GREATEST_SPEED) and is_among(hoist, 1, GREATEST_HOIST)
