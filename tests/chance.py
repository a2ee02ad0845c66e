"""Yards by chance, but the same ones each time."""

import random

from craneyard.errors import CraneError
from craneyard.rails import Rail
from craneyard.stacks import Stacks
from craneyard.yards import Yard
from model import Model

LETTERS = "abcdefghijklmnopqrstuv"


class Chance:
    """A yard, its model, and jobs that are given to both."""

    def __init__(self, seed, most_cranes=3, longest=12, greatest_speed=3, greatest_hoist=3):
        self.random = random.Random(seed)
        pick = self.random.randint
        many = pick(1, most_cranes)
        room = pick(1, 3)
        end = pick(max((many - 1) * room, 5), max((many - 1) * room + 4, longest))
        self.cranes = [(pick(1, greatest_speed), pick(1, greatest_hoist)) for _ in range(many)]
        places = sorted(self.random.sample(range(end + 1), min(pick(2, 6), end + 1)))
        self.random.shuffle(places)
        self.rows = [(LETTERS[at], place, pick(1, 6), pick(20, 60)) for at, place in enumerate(places)]
        self.rail = Rail(end, room, list(self.cranes))
        self.stacks = Stacks(self.rows)
        self.boxes = []
        self.pile_boxes(pick(1, 8))
        self.places = self.row_of_places(end, room, many)
        self.yard = Yard(self.rail, self.stacks, self.places)
        self.model = Model(end, room, self.cranes, self.rows, self.boxes, self.places)

    def pile_boxes(self, many):
        for box in LETTERS[-many:]:
            row = box, self.random.randint(1, 20), self.random.choice(self.rows)[0]
            try:
                self.stacks.put(*row)
            except CraneError:
                continue
            self.boxes.append(row)

    def row_of_places(self, end, room, many):
        """Any places that are apart: what is left beside the rooms is shared by chance."""
        spare = sorted(self.random.randint(0, end - (many - 1) * room) for _ in range(many))
        return [place + at * room for at, place in enumerate(spare)]

    def give(self):
        """Try to give a job; its number, or None where it is refused."""
        box = self.random.choice(self.boxes)[0] if self.boxes else "a"
        stack = self.random.choice(self.rows)[0]
        crane = self.random.choice([None, self.random.randrange(len(self.cranes))])
        try:
            number = self.yard.give(box, stack, crane)
        except CraneError:
            return None
        box, origin, target = self.yard.job(number)
        self.model.give(box, origin, target, self.yard.crane_of(number))
        return number

    def text(self):
        """The text that writes the yard as it was made; boxes of unlike stacks are mixed."""
        rows = [f"rail {self.rail.end} {self.rail.room}"]
        rows += [f"crane {speed} {hoist} {place}" for (speed, hoist), place in zip(self.cranes, self.places)]
        rows += [f"stack {name} {place} {high} {weight}" for name, place, high, weight in self.rows]
        rows += [f"box {box} {weight} {stack}" for box, weight, stack in self.boxes]
        return "\n".join(rows)
