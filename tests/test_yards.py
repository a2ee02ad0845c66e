"""Point [7]: craneyard/yards.py. Turns are those of craneyard/turns.py."""

import unittest

from craneyard import errors
from craneyard.rails import Rail
from craneyard.stacks import Stacks
from craneyard.turns import gone_on, turn
from craneyard.yards import Yard
from chance import Chance
from things import Case, all_of, all_of_yard, no_names, no_numbers


def a_rail():
    """A rail from 0 to 20 with room 4; the cranes reach 0 to 12, 4 to 16 and 8 to 20."""
    return Rail(20, 4, [(3, 2), (5, 1), (4, 3)])


def some_stacks():
    """Stack a at 0 with x below y, b at 8 with z, c at 12 without, d at 20 with w."""
    stacks = Stacks([("b", 8, 3, 50), ("a", 0, 3, 50), ("d", 20, 3, 50), ("c", 12, 1, 5)])
    for box, weight, stack in (("x", 5, "a"), ("y", 6, "a"), ("z", 4, "b"), ("w", 3, "d")):
        stacks.put(box, weight, stack)
    return stacks


def a_yard():
    return Yard(a_rail(), some_stacks(), [1, 7, 15])


class Made(Case):
    def test_as_it_is_made(self):
        rail = a_rail()
        yard = Yard(rail, some_stacks(), [1, 7, 15])
        self.assertIs(yard.rail, rail)
        self.assertEqual(yard.places(), [1, 7, 15])
        self.assertEqual(all_of(yard.stacks()), all_of(some_stacks()))
        self.assertIs(yard.stacks().__class__, Stacks)
        self.assertEqual((yard.many_jobs(), yard.many_turns()), (0, 0))
        for crane in range(3):
            self.assertEqual(yard.jobs_of(crane), [])
            self.assertEqual(yard.phase(crane), ("free", 0))
            self.assertIsNone(yard.holds(crane))

    def test_places_just_apart_and_by_one(self):
        for good, bad in (
            ([0, 4, 8], [0, 4, 7]), ([0, 4, 8], [0, 3, 8]), ([0, 4, 8], [-1, 4, 8]),
            ([12, 16, 20], [12, 16, 21]), ([12, 16, 20], [12, 16, 19]), ([0, 4, 8], [8, 4, 0]),
        ):
            self.assertEqual(Yard(a_rail(), some_stacks(), good).places(), good)
            self.assert_refused(errors.BadPlaces, Yard, a_rail(), some_stacks(), bad)

    def test_as_many_places_as_cranes(self):
        for places in ([], [0], [0, 4], [0, 4, 8, 12]):
            self.assert_refused(errors.BadPlaces, Yard, a_rail(), some_stacks(), places)

    def test_places_of_anything(self):
        for thing in no_numbers() + [0, 1, (0, 4, 8), range(0, 12, 4)]:
            with self.subTest(repr(thing)):
                self.assert_refused(errors.BadPlaces, Yard, a_rail(), some_stacks(), thing)
        for thing in no_numbers():
            with self.subTest(repr(thing)):
                self.assert_refused(errors.BadPlaces, Yard, a_rail(), some_stacks(), [thing, 4, 8])
                self.assert_refused(errors.BadPlaces, Yard, a_rail(), some_stacks(), [0, 4, thing])

    def test_stacks_with_places_on_the_rail(self):
        for end, places in ((20, [1, 7, 15]), (21, [1, 7, 15])):
            self.assertEqual(Yard(Rail(end, 4, [(1, 1)] * 3), some_stacks(), places).places(), places)
        self.assert_refused(errors.BadPlaces, Yard, Rail(19, 4, [(1, 1)] * 3), some_stacks(), [1, 7, 15])
        self.assert_refused(errors.BadPlaces, Yard, Rail(19, 1, [(1, 1)]), Stacks([("a", 20, 1, 1)]), [0])
        self.assertEqual(Yard(Rail(20, 1, [(1, 1)]), Stacks([("a", 20, 1, 1)]), [0]).places(), [0])

    def test_one_and_twenty_stacks(self):
        letters = "abcdefghijklmnopqrst"
        for many in (1, 20):
            rows = [(letters[at], at, 1, 1) for at in range(many)]
            yard = Yard(Rail(20, 4, [(1, 1)]), Stacks(rows), [3])
            self.assertEqual(yard.stacks().names(), list(letters[:many]))

    def test_what_was_handed_in_stays_and_may_change(self):
        cranes, stacks, places = [(3, 2), (5, 1), (4, 3)], some_stacks(), [1, 7, 15]
        yard = Yard(Rail(20, 4, cranes), stacks, places)
        yard.give("y", "b", 0)
        gone_on(yard, 20)
        self.assertEqual((cranes, places), ([(3, 2), (5, 1), (4, 3)], [1, 7, 15]))
        self.assertEqual(all_of(stacks), all_of(some_stacks()))
        before = all_of_yard(yard)
        stacks.take("a")
        stacks.put("new", 1, "c")
        places[0] = 3
        places.clear()
        cranes.clear()
        self.assertEqual(all_of_yard(yard), before)
        self.assert_refused(errors.NoBox, yard.give, "new", "b")

    def test_changes_between_making_and_giving(self):
        stacks, places = some_stacks(), [1, 7, 15]
        yard = Yard(a_rail(), stacks, places)
        stacks.take("a")
        places[1] = 99
        self.assertEqual(yard.places(), [1, 7, 15])
        self.assert_refused(errors.Buried, yard.give, "x", "b")
        self.assertEqual(yard.give("y", "b"), 0)


class Give(Case):
    def test_numbers_and_what_is_told_of_jobs(self):
        yard = a_yard()
        self.assertEqual([yard.give("y", "b", 0), yard.give("w", "c", 2), yard.give("x", "b")], [0, 1, 2])
        self.assertEqual([yard.job(number) for number in range(3)], [("y", "a", "b"), ("w", "d", "c"), ("x", "a", "b")])
        self.assertEqual([yard.crane_of(number) for number in range(3)], [0, 2, 0])
        told = [yard.is_done(number) for number in range(3)]
        self.assertEqual(told, [False] * 3)
        self.assertEqual({truth.__class__ for truth in told}, {bool})
        self.assertIs(yard.job(0).__class__, tuple)
        self.assertEqual(yard.many_jobs(), 3)
        self.assertEqual([yard.jobs_of(crane) for crane in range(3)], [[0, 2], [], [1]])
        self.assertEqual([yard.phase(crane)[0] for crane in range(3)], ["coming", "free", "coming"])

    def test_nothing_goes_before_a_turn(self):
        yard = a_yard()
        yard.give("y", "b")
        self.assertEqual(yard.places(), [1, 7, 15])
        self.assertEqual(all_of(yard.stacks()), all_of(some_stacks()))
        self.assertEqual(yard.many_turns(), 0)

    def test_by_what_is_planned_not_by_what_stands(self):
        yard = a_yard()
        yard.give("y", "b")
        yard.give("x", "b")
        self.assert_refused(errors.Same, yard.give, "y", "b")
        self.assert_refused(errors.Buried, yard.give, "y", "a")
        self.assert_refused(errors.TooHigh, yard.give, "w", "b")
        self.assertEqual(yard.give("x", "c"), 2)
        self.assertEqual(yard.job(2), ("x", "b", "c"))

    def test_reach_is_by_where_the_box_is_planned(self):
        yard = a_yard()
        # From a only crane 0 can take; from b, where y lies then, all can.
        self.assert_refused(errors.NoReach, yard.give, "y", "b", 1)
        yard.give("y", "b", 0)
        yard.give("y", "a", 0)
        self.assert_refused(errors.NoReach, yard.give, "y", "d", 0)
        self.assert_refused(errors.NoReach, yard.give, "y", "d", 2)
        self.assert_refused(errors.NoReach, yard.give, "y", "d")
        yard.give("y", "b", 0)
        self.assertEqual(yard.give("y", "d", 2), 3)
        self.assertEqual(yard.crane_of(3), 2)

    def test_just_within_reach_and_by_one(self):
        # Cranes reach 0 to 12, 4 to 16, 8 to 20.
        for crane, first, last in ((0, 0, 12), (1, 4, 16), (2, 8, 20)):
            for here, there, can in (
                (first, last, True), (last, first, True), (first + 1, last - 1, True),
                (first - 1, last, False), (first, last + 1, False), (last + 1, first, False), (last, first - 1, False),
            ):
                if not 0 <= min(here, there) <= max(here, there) <= 20:
                    continue
                stacks = Stacks([("a", here, 2, 9), ("b", there, 2, 9)])
                stacks.put("x", 1, "a")
                yard = Yard(a_rail(), stacks, [0, 4, 8])
                with self.subTest(crane=crane, here=here, there=there):
                    if can:
                        self.assertEqual(yard.give("x", "b", crane), 0)
                    else:
                        self.assert_refused(errors.NoReach, yard.give, "x", "b", crane)
                        self.assertEqual(yard.many_jobs(), 0)

    def test_none_is_the_first_one_that_can(self):
        for box, stack, crane in (("y", "b", 0), ("z", "c", 0), ("w", "b", 2), ("w", "c", 2), ("z", "a", 0)):
            yard = a_yard()
            yard.give(box, stack)
            with self.subTest(box=box, stack=stack):
                self.assertEqual(yard.crane_of(0), crane)
        yard = Yard(Rail(20, 4, [(1, 1)] * 3), some_stacks(), [1, 7, 15])
        self.assertEqual(yard.crane_of(yard.give("z", "c", None)), 0)

    def test_none_is_the_one_with_the_fewest_jobs(self):
        yard = a_yard()
        cranes = []
        for at in range(9):
            cranes.append(yard.crane_of(yard.give("z", "cb"[at % 2])))
        self.assertEqual(cranes, [0, 1, 2] * 3)
        yard = a_yard()
        yard.give("y", "b", 0)
        yard.give("w", "b", 2)
        self.assertEqual(yard.crane_of(yard.give("w", "c")), 1)
        self.assertEqual(yard.crane_of(yard.give("w", "b")), 0)

    def test_jobs_that_are_done_count_no_more(self):
        yard = a_yard()
        for at in range(4):
            yard.give("z", "cb"[at % 2], 0)
        self.assertEqual(yard.crane_of(yard.give("z", "c")), 1)
        gone_on(yard, 200)
        self.assertEqual([yard.jobs_of(crane) for crane in range(3)], [[], [], []])
        self.assertEqual(yard.crane_of(yard.give("z", "b")), 0)
        self.assertEqual(yard.crane_of(yard.give("z", "c")), 1)

    def test_a_told_crane_gets_it_whatever_it_has(self):
        yard = a_yard()
        for at in range(4):
            yard.give("z", "cb"[at % 2], 1)
        self.assertEqual(yard.jobs_of(1), [0, 1, 2, 3])
        self.assertEqual(yard.jobs_of(0), [])

    def test_no_crane(self):
        yard = a_yard()
        before = all_of_yard(yard)
        for thing in [thing for thing in no_numbers() if thing is not None] + [-1, 3, 10 ** 12]:
            with self.subTest(repr(thing)):
                self.assert_refused(errors.NoCrane, yard.give, "y", "b", thing)
                self.assert_refused(errors.NoCrane, yard.give, thing, thing, thing)
        self.assertEqual(all_of_yard(yard), before)

    def test_as_plans_refuse_of_anything(self):
        yard = a_yard()
        yard.give("y", "b")
        before = all_of_yard(yard)
        for crane in (None, 0, 1, 2):
            for thing in no_names() + [0, 1, "a", "nobox"]:
                self.assert_refused(errors.NoBox, yard.give, thing, "b", crane)
                self.assert_refused(errors.NoBox, yard.give, thing, thing, crane)
            for thing in no_names() + [0, 1, "x", "nowhere"]:
                self.assert_refused(errors.NoStack, yard.give, "y", thing, crane)
            self.assert_refused(errors.Same, yard.give, "z", "b", crane)
            self.assert_refused(errors.Buried, yard.give, "z", "c", crane)
            self.assert_refused(errors.TooHeavy, yard.give, "y", "c", crane)
        self.assertEqual(all_of_yard(yard), before)
        yard.give("x", "c")
        for crane in (None, 0, 1, 2):
            self.assert_refused(errors.TooHigh, yard.give, "w", "c", crane)
            self.assert_refused(errors.TooHigh, yard.give, "y", "c", crane)
        self.assertEqual(yard.many_jobs(), 2)

    def test_the_first_refusal_that_is_told(self):
        yard = a_yard()
        before = all_of_yard(yard)
        self.assert_refused(errors.NoCrane, yard.give, "nobox", "nowhere", 3)
        self.assert_refused(errors.NoBox, yard.give, "nobox", "nowhere", 2)
        self.assert_refused(errors.NoStack, yard.give, "x", "nowhere", 2)
        self.assert_refused(errors.Same, yard.give, "x", "a", 2)
        self.assert_refused(errors.Buried, yard.give, "x", "d", 2)
        self.assert_refused(errors.TooHeavy, yard.give, "y", "c", 2)
        self.assert_refused(errors.NoReach, yard.give, "y", "d", 2)
        self.assert_refused(errors.NoReach, yard.give, "y", "d")
        self.assertEqual(all_of_yard(yard), before)
        self.assertEqual(yard.give("y", "b"), 0)


class Asked(Case):
    def test_no_crane(self):
        yard = a_yard()
        yard.give("y", "b")
        for thing in no_numbers() + [-1, 3, 10 ** 12]:
            for action in (yard.jobs_of, yard.phase, yard.holds):
                with self.subTest(repr(thing), action=action.__name__):
                    self.assert_refused(errors.NoCrane, action, thing)

    def test_no_job(self):
        yard = a_yard()
        for thing in no_numbers() + [-1, 0, 1]:
            for action in (yard.job, yard.crane_of, yard.is_done):
                with self.subTest(repr(thing), action=action.__name__):
                    self.assert_refused(errors.NoJob, action, thing)
        yard.give("y", "b")
        yard.give("x", "b")
        for thing in no_numbers() + [-1, -2, 2, 10 ** 12]:
            for action in (yard.job, yard.crane_of, yard.is_done):
                with self.subTest(repr(thing), action=action.__name__):
                    self.assert_refused(errors.NoJob, action, thing)

    def test_told_lists_are_the_askers_own(self):
        yard = a_yard()
        yard.give("y", "b", 0)
        yard.give("x", "b", 0)
        early = yard.places(), yard.jobs_of(0), yard.stacks()
        before = all_of_yard(yard)
        yard.places().append(1)
        yard.places().clear()
        yard.jobs_of(0).clear()
        yard.jobs_of(0)[0] = 99
        yard.jobs_of(1).append(5)
        other = yard.stacks()
        other.take("a")
        other.put("new", 1, "c")
        self.assertEqual(all_of_yard(yard), before)
        gone_on(yard, 100)
        self.assertEqual(early[:2], ([1, 7, 15], [0, 1]))
        self.assertEqual(all_of(early[2]), all_of(some_stacks()))
        self.assertEqual(yard.jobs_of(0), [])


class Phases(Case):
    def test_one_job_turn_by_turn(self):
        stacks = Stacks([("a", 4, 3, 50), ("b", 9, 3, 50)])
        for box in "xyz":
            stacks.put(box, 5, "a")
        yard = Yard(Rail(20, 4, [(3, 2)]), stacks, [0])
        both = ["x", "y", "z"], []
        rows = [
            # Place, word, turns left, what it holds, boxes of a, of b.
            (3, "coming", 0, None, *both),
            (4, "lifting", 2, None, *both),
            (4, "lifting", 1, None, *both),
            (4, "bringing", 0, "z", ["x", "y"], []),
            (7, "bringing", 0, "z", ["x", "y"], []),
            (9, "lowering", 2, "z", ["x", "y"], []),
            (9, "lowering", 1, "z", ["x", "y"], []),
            (9, "coming", 0, None, ["x", "y"], ["z"]),
            (6, "coming", 0, None, ["x", "y"], ["z"]),
            (4, "lifting", 2, None, ["x", "y"], ["z"]),
            (4, "lifting", 1, None, ["x", "y"], ["z"]),
            (4, "bringing", 0, "y", ["x"], ["z"]),
            (7, "bringing", 0, "y", ["x"], ["z"]),
            (9, "lowering", 2, "y", ["x"], ["z"]),
            (9, "lowering", 1, "y", ["x"], ["z"]),
            (9, "free", 0, None, ["x"], ["z", "y"]),
            (9, "free", 0, None, ["x"], ["z", "y"]),
        ]
        yard.give("z", "b")
        yard.give("y", "b")
        for at, row in enumerate(rows):
            turn(yard)
            with self.subTest(at):
                now = yard.stacks()
                boxes = [[box for box, _ in now.boxes(stack)] for stack in "ab"]
                told = (*yard.places(), *yard.phase(0), yard.holds(0), *boxes)
                self.assertEqual(told, row)
                self.assertEqual(yard.many_turns(), at + 1)
                self.assertEqual((yard.is_done(0), yard.is_done(1)), (at >= 7, at >= 15))
                self.assertEqual(yard.jobs_of(0), [0, 1] if at < 7 else [1] if at < 15 else [])
                if row[3] is not None:
                    self.assert_refused(errors.NoBox, now.where, row[3])
        self.assertEqual(yard.stacks().boxes("b"), [("z", 5), ("y", 5)])

    def test_each_cranes_own_hoist(self):
        for hoist in range(1, 10):
            stacks = Stacks([("a", 4, 3, 50), ("b", 9, 3, 50)])
            stacks.put("x", 1, "a")
            yard = Yard(Rail(20, 4, [(9, hoist), (1, 10 - hoist)]), stacks, [4, 20])
            yard.give("x", "b", 0)
            told = []
            while not yard.is_done(0):
                turn(yard)
                told.append(yard.phase(0))
            works = list(range(hoist, 0, -1))
            wanted = [("lifting", left) for left in works] + [("bringing", 0)]
            self.assertEqual(told, wanted + [("lowering", left) for left in works] + [("free", 0)])

    def test_a_job_for_one_that_is_free_or_at_work(self):
        yard = a_yard()
        self.assertEqual(yard.phase(0), ("free", 0))
        yard.give("y", "b", 0)
        self.assertEqual(yard.phase(0), ("coming", 0))
        turn(yard)
        self.assertEqual(yard.phase(0), ("lifting", 2))
        yard.give("x", "b", 0)
        self.assertEqual(yard.phase(0), ("lifting", 2))
        turn(yard)
        turn(yard)
        self.assertEqual((yard.phase(0), yard.holds(0)), (("bringing", 0), "y"))
        yard.give("x", "a", 0)
        self.assertEqual((yard.phase(0), yard.holds(0)), (("bringing", 0), "y"))
        self.assertEqual(yard.jobs_of(0), [0, 1, 2])

    def test_a_box_that_is_held_is_planned_where_it_goes(self):
        yard = a_yard()
        yard.give("y", "b", 0)
        while yard.holds(0) is None:
            turn(yard)
        self.assert_refused(errors.NoBox, yard.stacks().where, "y")
        self.assert_refused(errors.Same, yard.give, "y", "b")
        self.assertEqual(yard.job(yard.give("y", "a")), ("y", "b", "a"))


class Copied(Case):
    def test_alike_at_any_time(self):
        for seed in range(30):
            chance = Chance(seed)
            for at in range(40):
                if at % 3 == 0:
                    chance.give()
                alike = chance.yard.copied()
                self.assertIs(alike.__class__, Yard)
                self.assertIsNot(alike, chance.yard)
                self.assertEqual(all_of_yard(alike), all_of_yard(chance.yard))
                turn(chance.yard)
                self.assertEqual(alike.many_turns(), at)
                turn(alike)
                self.assertEqual(all_of_yard(alike), all_of_yard(chance.yard))

    def test_each_goes_on_by_itself(self):
        for seed in range(20):
            for wait in (0, 2, 5, 9, 14):
                for first in (True, False):
                    one = Chance(seed)
                    for _ in range(4):
                        one.give()
                    gone_on(one.yard, wait)
                    other = one.yard.copied()
                    if first:
                        one.yard, other = other, one.yard
                    before = all_of_yard(other)
                    for _ in range(3):
                        one.give()
                    gone_on(one.yard, 25)
                    self.assertEqual(all_of_yard(other), before)

    def test_both_are_given_the_same_numbers(self):
        yard = a_yard()
        yard.give("y", "b")
        alike = yard.copied()
        self.assertEqual((yard.give("x", "b"), alike.give("w", "c")), (1, 1))
        self.assertEqual((yard.crane_of(1), alike.crane_of(1)), (0, 2))
        self.assertEqual((yard.job(1), alike.job(1)), (("x", "a", "b"), ("w", "d", "c")))
        self.assertEqual((yard.many_jobs(), alike.many_jobs()), (2, 2))
        self.assert_refused(errors.NoJob, alike.job, 2)


if __name__ == "__main__":
    unittest.main()
