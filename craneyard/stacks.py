"""Stacks of boxes: each has a place, and bounds of how many boxes lie on it and of what they weigh."""

from craneyard.errors import BadName, BadNumber, BadStack, Empty, NoBox, NoStack, TooHeavy, TooHigh, Twice
from craneyard.words import GREATEST_NUMBER, is_among, is_name

MOST_STACKS = 20
MOST_BOXES = 20


class Stacks:
    """Stacks by their names, and the boxes that lie on them."""

    def __init__(self, stacks):
        if not _are_stacks(stacks):
            raise BadStack("there are no such stacks")
        self._told = {row[0]: row for row in stacks}
        self._piles = {name: [] for name in self._told}
        self._lying = {}

    def names(self):
        """The names of all stacks, rising."""
        return sorted(self._told)

    def place_of(self, stack):
        """The place of this stack."""
        self._ask_stack(stack)
        return self._told[stack][1]

    def farthest(self):
        """The greatest place of all stacks."""
        return max([place for _, place, _, _ in self._told.values()])

    def high(self, stack):
        """How many boxes this stack may have."""
        self._ask_stack(stack)
        return self._told[stack][2]

    def weight(self, stack):
        """How much the boxes of this stack may weigh together."""
        self._ask_stack(stack)
        return self._told[stack][3]

    def boxes(self, stack):
        """A list of the boxes (BOX, WEIGHT) of this stack, from below."""
        self._ask_stack(stack)
        return list(self._piles[stack])

    def where(self, box):
        """The name of the stack on which this box lies."""
        if not self._lies(box):
            raise NoBox("there is no such box")
        return self._lying[box]

    def is_top(self, box):
        """Whether this box is the uppermost one of its stack."""
        pile = self._piles[self.where(box)]
        return pile[-1][0] == box

    def put(self, box, weight, stack):
        """Lay a box on top of this stack."""
        if not is_name(box):
            raise BadName("this is no name of a box")
        if not is_among(weight, 1, GREATEST_NUMBER):
            raise BadNumber("this is no weight of a box")
        self._ask_stack(stack)
        if self._lies(box):
            raise Twice("this box lies somewhere already")
        self._ask_space(weight, stack)
        self._piles[stack].append((box, weight))
        self._lying[box] = stack

    def take(self, stack):
        """Take the uppermost box off this stack: a tuple (BOX, WEIGHT)."""
        self._ask_stack(stack)
        if not self._piles[stack]:
            raise Empty("this stack has no box")
        box, weight = self._piles[stack].pop()
        del self._lying[box]
        return box, weight

    def copied(self):
        """Stacks alike, which go on by themselves."""
        # Handed in is one stack alone, so that not all are checked again; what is told of them never changes.
        alike = Stacks(list(self._told.values())[:1])
        alike._told = self._told
        alike._piles = {name: list(pile) for name, pile in self._piles.items()}
        alike._lying = dict(self._lying)
        return alike

    def _lies(self, thing):
        # The name comes first: not everything can be looked up.
        return is_name(thing) and thing in self._lying

    def _ask_stack(self, thing):
        if not is_name(thing) or thing not in self._told:
            raise NoStack("there is no such stack")

    def _ask_space(self, weight, stack):
        _, _, most, heaviest = self._told[stack]
        pile = self._piles[stack]
        if len(pile) >= most:
            raise TooHigh("this stack may not have so many boxes")
        if sum([lying for _, lying in pile]) + weight > heaviest:
            raise TooHeavy("the boxes of this stack may not weigh so much")


def _are_stacks(thing):
    if not isinstance(thing, list) or not 1 <= len(thing) <= MOST_STACKS:
        return False
    if not all([_is_stack(row) for row in thing]):
        return False
    return len({row[0] for row in thing}) == len(thing) == len({row[1] for row in thing})


def _is_stack(thing):
    if not isinstance(thing, tuple) or len(thing) != 4:
        return False
    name, place, most, heaviest = thing
    return (
        is_name(name)
        and is_among(place, 0, GREATEST_NUMBER)
        and is_among(most, 1, MOST_BOXES)
        and is_among(heaviest, 1, GREATEST_NUMBER)
    )
