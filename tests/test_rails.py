"""Point [3]: craneyard/rails.py."""

import unittest

from craneyard.errors import BadRail, CraneError, NoCrane
from craneyard.rails import Rail
from things import no_numbers

CRANES = [(3, 2), (5, 1), (1, 4)]


def three():
    return Rail(20, 4, list(CRANES))


class Fields(unittest.TestCase):
    def test_fields(self):
        rail = three()
        self.assertEqual((rail.end, rail.room, rail.cranes), (20, 4, tuple(CRANES)))
        self.assertIs(rail.cranes.__class__, tuple)
        self.assertEqual([crane.__class__ for crane in rail.cranes], [tuple] * 3)

    def test_what_was_handed_in_stays_and_may_change(self):
        cranes = list(CRANES)
        rail = Rail(20, 4, cranes)
        self.assertEqual(cranes, CRANES)
        cranes.append((1, 1))
        cranes[0] = (9, 9)
        self.assertEqual(rail.cranes, tuple(CRANES))
        self.assertEqual(rail.reach(2), (8, 20))
        cranes.clear()
        self.assertIs(rail.are_apart([0, 4, 8]), True)

    def test_rails_are_each_their_own(self):
        one, other = three(), Rail(9, 1, [(1, 1)])
        self.assertEqual((one.end, other.end), (20, 9))
        self.assertEqual((len(one.cranes), len(other.cranes)), (3, 1))


class Bounds(unittest.TestCase):
    def assert_bad(self, end, room, cranes):
        with self.assertRaises(BadRail) as caught:
            Rail(end, room, cranes)
        self.assertIs(caught.exception.__class__, BadRail)

    def test_least_and_greatest(self):
        for end, room, cranes in (
            (1, 1, [(1, 1)]),
            (1, 10 ** 6, [(1, 1)]),
            (10 ** 12, 10 ** 6, [(10 ** 9, 1000)] * 6),
            (10 ** 12, 1, [(1, 1000), (10 ** 9, 1)]),
        ):
            with self.subTest(end=end, room=room):
                rail = Rail(end, room, cranes)
                self.assertEqual((rail.end, rail.room, rail.cranes), (end, room, tuple(cranes)))

    def test_every_number_of_cranes(self):
        for many in range(0, 9):
            with self.subTest(many):
                if 1 <= many <= 6:
                    self.assertEqual(len(Rail(100, 1, [(1, 1)] * many).cranes), many)
                else:
                    self.assert_bad(100, 1, [(1, 1)] * many)

    def test_ends(self):
        for end in (0, -1, -10 ** 12, 10 ** 12 + 1, 10 ** 9000):
            self.assert_bad(end, 1, [(1, 1)])

    def test_rooms(self):
        for room in (0, -1, 10 ** 6 + 1, 10 ** 12):
            self.assert_bad(10 ** 12, room, [(1, 1)])
            self.assert_bad(10 ** 12, room, [(1, 1), (1, 1)])

    def test_speeds(self):
        for speed in (0, -1, 10 ** 9 + 1):
            self.assert_bad(100, 1, [(speed, 1)])
            self.assert_bad(100, 1, [(1, 1), (speed, 1)])

    def test_hoists(self):
        for hoist in (0, -1, 1001):
            self.assert_bad(100, 1, [(1, hoist)])
            self.assert_bad(100, 1, [(1, 1), (1, hoist), (1, 1)])

    def test_just_places_for_all_and_one_too_few(self):
        for room in (1, 2, 7, 10 ** 6):
            for many in range(2, 7):
                with self.subTest(room=room, many=many):
                    end = (many - 1) * room
                    rail = Rail(end, room, [(1, 1)] * many)
                    self.assertEqual(rail.reach(0), (0, 0))
                    self.assertEqual(rail.reach(many - 1), (end, end))
                    self.assert_bad(end - 1, room, [(1, 1)] * many)

    def test_one_crane_needs_no_room(self):
        self.assertEqual(Rail(1, 10 ** 6, [(1, 1)]).reach(0), (0, 1))

    def test_anything_as_an_end_or_a_room(self):
        for thing in no_numbers():
            with self.subTest(repr(thing)):
                self.assert_bad(thing, 1, [(1, 1)])
                self.assert_bad(100, thing, [(1, 1)])
                self.assert_bad(thing, thing, thing)

    def test_anything_as_a_speed_or_a_hoist(self):
        for thing in no_numbers():
            with self.subTest(repr(thing)):
                self.assert_bad(100, 1, [(thing, 1)])
                self.assert_bad(100, 1, [(1, thing)])
                self.assert_bad(100, 1, [(1, 1), (1, thing)])

    def test_anything_as_cranes(self):
        for thing in no_numbers() + [0, 1, ((1, 1),), ((1, 1), (1, 1)), {(1, 1): (1, 1)}, {(1, 1)}]:
            with self.subTest(repr(thing)):
                self.assert_bad(100, 1, thing)

    def test_anything_as_a_crane(self):
        for thing in no_numbers() + [0, 5, [1, 1], (1, 1, 1), (1,), (), "11", {1: 1, 2: 2}]:
            with self.subTest(repr(thing)):
                self.assert_bad(100, 1, [thing])
                self.assert_bad(100, 1, [(1, 1), thing, (1, 1)])

    def test_a_refusal_changes_nothing_that_was_handed_in(self):
        cranes = [(1, 1), [1, 1], (1, 0)]
        self.assert_bad(100, 1, cranes)
        self.assertEqual(cranes, [(1, 1), [1, 1], (1, 0)])


class Reach(unittest.TestCase):
    def test_reach(self):
        self.assertEqual([three().reach(crane) for crane in range(3)], [(0, 12), (4, 16), (8, 20)])

    def test_reach_of_a_lone_crane(self):
        self.assertEqual(Rail(9, 5, [(1, 1)]).reach(0), (0, 9))

    def test_reach_is_where_the_crane_stands_in_places_that_are_apart(self):
        for end, room, many in ((7, 2, 3), (6, 1, 4), (8, 3, 2), (6, 3, 3)):
            rail = Rail(end, room, [(1, 1)] * many)
            rows = all_apart(rail, many)
            for crane in range(many):
                stood = sorted({row[crane] for row in rows})
                with self.subTest(end=end, crane=crane):
                    self.assertEqual(rail.reach(crane), (stood[0], stood[-1]))

    def test_no_crane(self):
        rail = three()
        for thing in no_numbers() + [-1, 3, 4, 10 ** 12]:
            with self.subTest(repr(thing)), self.assertRaises(NoCrane) as caught:
                rail.reach(thing)
            self.assertIs(caught.exception.__class__, NoCrane)
            self.assertIsInstance(caught.exception, CraneError)


def all_apart(rail, many):
    """All lists of numbers for which the rail tells that they are apart."""
    rows = [[]]
    for _ in range(many):
        rows = [row + [place] for row in rows for place in range(-1, rail.end + 2)]
    return [row for row in rows if rail.are_apart(row)]


class Apart(unittest.TestCase):
    def test_just_apart_and_a_place_too_near(self):
        rail = three()
        self.assertIs(rail.are_apart([0, 4, 8]), True)
        self.assertIs(rail.are_apart([12, 16, 20]), True)
        self.assertIs(rail.are_apart([3, 9, 17]), True)
        self.assertIs(rail.are_apart([0, 3, 8]), False)
        self.assertIs(rail.are_apart([0, 4, 7]), False)
        self.assertIs(rail.are_apart([12, 16, 19]), False)

    def test_places_beyond_the_rail(self):
        rail = three()
        self.assertIs(rail.are_apart([-1, 4, 8]), False)
        self.assertIs(rail.are_apart([0, 4, 20]), True)
        self.assertIs(rail.are_apart([0, 4, 21]), False)
        self.assertIs(rail.are_apart([0, 21, 30]), False)
        lone = Rail(9, 5, [(1, 1)])
        told = [lone.are_apart([place]) for place in (-1, 0, 1, 8, 9, 10)]
        self.assertEqual(told, [False, True, True, True, True, False])

    def test_from_the_left_to_the_right(self):
        rail = three()
        for places in ([8, 4, 0], [0, 8, 4], [4, 0, 8], [5, 5, 5], [0, 20, 0]):
            with self.subTest(places):
                self.assertIs(rail.are_apart(places), False)

    def test_one_for_each_crane(self):
        rail = three()
        for places in ([], [0], [0, 4], [0, 4, 8, 12]):
            with self.subTest(places):
                self.assertIs(rail.are_apart(places), False)

    def test_a_room_of_one(self):
        rail = Rail(1, 1, [(1, 1), (1, 1)])
        self.assertIs(rail.are_apart([0, 1]), True)
        for places in ([0, 0], [1, 1], [1, 0], [1, 2], [-1, 0]):
            with self.subTest(places):
                self.assertIs(rail.are_apart(places), False)

    def test_the_greatest_rail(self):
        rail = Rail(10 ** 12, 10 ** 6, [(1, 1)] * 6)
        last = [10 ** 12 - k * 10 ** 6 for k in range(5, -1, -1)]
        self.assertIs(rail.are_apart(last), True)
        for crane in range(6):
            places = list(last)
            places[crane] += 1
            with self.subTest(crane):
                self.assertIs(rail.are_apart(places), False)

    def test_of_anything(self):
        rail = three()
        for thing in no_numbers() + [0, 4, (0, 4, 8), {0: 0, 4: 4, 8: 8}, {0, 4, 8}, range(0, 12, 4), "048"]:
            with self.subTest(repr(thing)):
                self.assertIs(rail.are_apart(thing), False)

    def test_of_anything_as_a_place(self):
        rail = three()
        for thing in no_numbers():
            with self.subTest(repr(thing)):
                self.assertIs(rail.are_apart([thing, 4, 8]), False)
                self.assertIs(rail.are_apart([0, thing, 8]), False)
                self.assertIs(rail.are_apart([0, 4, thing]), False)
        lone = Rail(9, 5, [(1, 1)])
        self.assertIs(lone.are_apart([True]), False)
        self.assertIs(lone.are_apart([False]), False)

    def test_nothing_that_was_handed_in_is_changed(self):
        places = [0, 4, 8]
        three().are_apart(places)
        self.assertEqual(places, [0, 4, 8])


if __name__ == "__main__":
    unittest.main()
