"""Things of many kinds, for whatever must hold of anything, and what several tests ask."""

import unittest

from craneyard.errors import BadJournal, BadText, CraneError
from craneyard.rails import Rail
from craneyard.stacks import Stacks
from craneyard.yards import Yard


class Case(unittest.TestCase):
    """A test that asks for refusals of just one kind."""

    def assert_refused(self, kind, action, *arguments):
        with self.assertRaises(CraneError) as caught:
            action(*arguments)
        self.assertIs(caught.exception.__class__, kind, arguments)
        return caught.exception

    def assert_bad_text(self, line, action, *arguments):
        error = self.assert_refused(BadText, action, *arguments)
        self.assertEqual((error.line, error.line.__class__), (line, int), arguments)

    def assert_bad_journal(self, place, action, *arguments):
        error = self.assert_refused(BadJournal, action, *arguments)
        self.assertEqual((error.place, error.place.__class__), (place, int), arguments)


def all_of(stacks):
    """All that stacks tell of themselves."""
    told = {}
    for name in stacks.names():
        row = (stacks.place_of(name), stacks.high(name), stacks.weight(name), stacks.boxes(name))
        told[name] = row, [(stacks.where(box), stacks.is_top(box)) for box, _ in row[3]]
    return told


class Odd:
    """An object that no part of the program knows, and that is equal to anything."""

    def __eq__(self, other):
        return True

    def __hash__(self):
        return 0


class Wordy:
    """An object that can be read as a text, a number and a list, and is none of them."""

    def __str__(self):
        return "1"

    def __int__(self):
        return 1

    def __index__(self):
        return 1

    def __len__(self):
        return 1

    def __getitem__(self, at):
        return [1][at]


def a_function(thing):
    return thing


def no_texts():
    """Things that are neither texts nor whole numbers."""
    return [
        None, True, False, b"", b"1", b"abc", bytearray(b"a"),
        [], [1], [None], ["a"], ["1"], [True], (), (1,), ("a",), (1, 2, 3), {}, {1: 2}, {"a": 1},
        set(), {1}, {"a"}, frozenset(), range(3), object(), Odd(), Wordy(), a_function, int, Odd,
        ValueError("1"), Ellipsis, NotImplemented, iter([1]), [[]], [()], [[1, 1]], ((1, 1),),
    ]


def no_numbers():
    """Things that are no whole numbers."""
    return no_texts() + ["", "a", "abc", "0", "1", "-1", "abc def", "\n"]


def no_names():
    """Things that are no names, and no whole numbers."""
    texts = ["", "A", "aB", "a1", "1", "a b", " a", "a ", "a\n", "a-b", "abcdefghi", "a" * 99, "\t", "{", "`"]
    return no_texts() + texts


def yard_of(end, room, cranes, places, stacks, boxes):
    """A yard by stacks (NAME, PLACE) and boxes (BOX, STACK)."""
    made = Stacks([(name, place, 5, 100) for name, place in stacks])
    for box, stack in boxes:
        made.put(box, 1, stack)
    return Yard(Rail(end, room, cranes), made, places)


def all_of_yard(yard):
    """All that a yard tells of itself."""
    cranes = [(yard.jobs_of(crane), yard.phase(crane), yard.holds(crane)) for crane in range(len(yard.rail.cranes))]
    jobs = [(yard.job(number), yard.crane_of(number), yard.is_done(number)) for number in range(yard.many_jobs())]
    return yard.places(), all_of(yard.stacks()), cranes, jobs, yard.many_turns()
