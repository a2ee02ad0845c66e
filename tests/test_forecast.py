"""Points [10] (its bound) and [11]: craneyard/forecast.py."""

import unittest

from craneyard import errors
from craneyard.forecast import bound, places_in, when_done, why
from craneyard.turns import gone_on, turn
from chance import Chance
from things import Case, all_of_yard, no_numbers, yard_of


def two_cranes():
    """Crane 0 brings x from a to b, then crane 1 brings y from c to b, y back to c, and x back to a."""
    yard = yard_of(
        30, 2, [(4, 3), (5, 2)], [0, 30], [("a", 4), ("b", 12), ("c", 22)], [("x", "a"), ("y", "c")],
    )
    for job in (("x", "b", 0), ("y", "b", 1), ("y", "c", 1), ("x", "a", 1)):
        yard.give(*job)
    return yard


def turns_till(yard, number):
    """In how many turns the job is done, turn by turn."""
    ahead = yard.copied()
    while not ahead.is_done(number):
        turn(ahead)
    return ahead.many_turns() - yard.many_turns()


def a_busy_chance(seed, jobs=10, **told):
    chance = Chance(seed, **told)
    for _ in range(jobs):
        chance.give()
    gone_on(chance.yard, seed % 7)
    return chance


def goal_by_words(yard, crane):
    word = yard.phase(crane)[0]
    if word not in ("coming", "bringing"):
        return None
    _, origin, target = yard.job(yard.jobs_of(crane)[0])
    return yard.stacks().place_of(origin if word == "coming" else target)


def why_by_words(yard, crane):
    """As [9] and [11] tell it, by what the yard tells of itself."""
    place = yard.places()[crane]
    if goal_by_words(yard, crane) != place:
        return None
    number = yard.jobs_of(crane)[0]
    for other in range(number if yard.phase(crane)[0] == "coming" else 0):
        if not yard.is_done(other) and set(yard.job(other)[1:]) & set(yard.job(number)[1:]):
            return "job", other
    room = yard.rail.room
    for other in range(len(yard.places())):
        needed = goal_by_words(yard, other)
        if needed is not None and yard.jobs_of(other)[0] < number:
            if other < crane and needed > place - (crane - other) * room:
                return "way", other
            if other > crane and needed < place + (other - crane) * room:
                return "way", other
    return None


class Bound(Case):
    def test_the_sum_for_it_and_lesser_ones(self):
        yard = two_cranes()
        # Twice the end and twice the greatest hoist of all for each, and twice the hoist of its own crane.
        self.assertEqual([bound(yard, number) for number in range(4)], [72, 142, 212, 282])
        while not yard.is_done(0):
            turn(yard)
        self.assertEqual([bound(yard, number) for number in range(4)], [0, 70, 140, 210])
        gone_on(yard, 500)
        self.assertEqual([bound(yard, number) for number in range(4)], [0, 0, 0, 0])

    def test_a_lesser_one_that_is_done_counts_no_more_and_one_that_is_done_has_none(self):
        yard = yard_of(
            40, 2, [(1, 5), (9, 1)], [0, 40],
            [("a", 4), ("b", 12), ("c", 30), ("d", 38)], [("x", "a"), ("y", "c")],
        )
        yard.give("x", "b", 0)
        yard.give("y", "d", 1)
        yard.give("x", "a", 0)
        self.assertEqual([bound(yard, number) for number in range(3)], [100, 192, 292])
        gone_on(yard, 8)
        self.assertEqual([yard.is_done(number) for number in range(3)], [False, True, False])
        self.assertEqual([bound(yard, number) for number in range(3)], [100, 0, 200])

    def test_the_greatest_hoist_is_that_of_any_crane(self):
        yard = yard_of(10, 1, [(1, 1), (1, 9), (1, 2)], [0, 1, 2], [("a", 2), ("b", 5)], [("x", "a")])
        yard.give("x", "b", 0)
        self.assertEqual(bound(yard, 0), 20 + 18 + 2)

    def test_it_may_be_above_the_greatest_number(self):
        yard = yard_of(10 ** 12, 1, [(1, 2)], [0], [("a", 0), ("b", 10 ** 12)], [("x", "a")])
        for stack in "bab":
            yard.give("x", stack)
        self.assertEqual([bound(yard, number) for number in range(3)],
                         [2 * 10 ** 12 + 8, 4 * 10 ** 12 + 16, 6 * 10 ** 12 + 24])

    def test_as_modelled(self):
        for seed in range(60):
            chance = a_busy_chance(seed)
            for _ in range(seed % 7):
                chance.model.turn()
            for _ in range(12):
                for number in range(chance.yard.many_jobs()):
                    done = chance.yard.is_done(number)
                    wanted = 0 if done else chance.model.bound(number)
                    self.assertEqual(bound(chance.yard, number), wanted, (seed, number))
                turn(chance.yard)
                chance.model.turn()

    def test_each_job_is_done_within_it(self):
        for seed in range(60):
            chance = a_busy_chance(seed, most_cranes=6, longest=30)
            for number in range(chance.yard.many_jobs()):
                told = when_done(chance.yard, number, bound(chance.yard, number))
                self.assertIsNotNone(told, (seed, number))

    def test_no_job(self):
        yard = two_cranes()
        before = all_of_yard(yard)
        for thing in no_numbers() + [-1, 4, 10 ** 12]:
            with self.subTest(repr(thing)):
                self.assert_refused(errors.NoJob, bound, yard, thing)
        self.assertEqual(all_of_yard(yard), before)


class WhenDone(Case):
    def test_a_way_by_hand(self):
        # One turn to 4 and lifting begins, three of lifting, two to 12 and lowering begins, three of lowering.
        yard = two_cranes()
        self.assertEqual(when_done(yard, 0, 200), 1 + 3 + 2 + 3)

    def test_just_within_and_one_turn_earlier(self):
        for seed in range(60):
            yard = a_busy_chance(seed).yard
            for number in range(yard.many_jobs()):
                turns = turns_till(yard, number)
                with self.subTest(seed=seed, number=number):
                    for most in (turns, turns + 1, turns + 50, 10 ** 6):
                        self.assertEqual(when_done(yard, number, most), turns)
                    if turns > 0:
                        self.assertIsNone(when_done(yard, number, turns - 1))
                        self.assertIsNone(when_done(yard, number, 0))

    def test_of_one_that_is_done(self):
        yard = two_cranes()
        gone_on(yard, 500)
        for most in (0, 1, 10 ** 6):
            self.assertEqual([when_done(yard, number, most) for number in range(4)], [0, 0, 0, 0])

    def test_within_no_turn(self):
        yard = two_cranes()
        self.assertEqual([when_done(yard, number, 0) for number in range(4)], [None] * 4)

    def test_long_ways_as_turn_by_turn(self):
        for seed in range(50):
            chance = a_busy_chance(seed, most_cranes=6, longest=700, greatest_speed=1 + seed % 9, greatest_hoist=9)
            yard = chance.yard
            for number in range(yard.many_jobs()):
                turns = turns_till(yard, number)
                with self.subTest(seed=seed, number=number):
                    self.assertEqual(when_done(yard, number, 10 ** 6), turns)
                    self.assertEqual(when_done(yard, number, turns), turns)
                    if turns > 0:
                        self.assertIsNone(when_done(yard, number, turns - 1))

    def test_very_long_ways(self):
        # 499999 turns to a, 2 of lifting, 499995 to b, 2 of lowering, where the last turn to come begins the work.
        yard = yard_of(
            10 ** 12, 3, [(10 ** 5, 2), (1, 1)], [1, 10 ** 12 - 5],
            [("a", 499999 * 10 ** 5), ("b", 4 * 10 ** 5)], [("x", "a")],
        )
        yard.give("x", "b", 0)
        turns = 499999 + 2 + 499995 + 2
        self.assertEqual(when_done(yard, 0, 10 ** 6), turns)
        self.assertEqual(when_done(yard, 0, turns), turns)
        self.assertIsNone(when_done(yard, 0, turns - 1))
        yard.give("x", "a", 0)
        self.assertIsNone(when_done(yard, 1, 10 ** 6))
        self.assertEqual(yard.many_turns(), 0)

    def test_a_very_long_way_with_one_that_is_pushed(self):
        # Crane 1 is slower, and has to go ahead of crane 0 from place 10 to 900000; it goes by 1 each turn.
        yard = yard_of(
            10 ** 6, 3, [(7, 1), (1, 1)], [0, 10], [("a", 0), ("b", 900000)], [("x", "a")],
        )
        yard.give("x", "b", 0)
        # Lifting ends in turn 2; in turn 3 crane 0 is at 7 and then at 8 (crane 1 at 11), 9, 10 ..
        gone_on(yard, 3)
        self.assertEqual(yard.places(), [7, 10])
        self.assertEqual(when_done(yard, 0, 10 ** 6), (900000 - 7) + 1)
        self.assertIsNone(when_done(yard, 0, 900000 - 7))

    def test_the_yard_is_not_changed(self):
        for seed in range(20):
            yard = a_busy_chance(seed).yard
            before = all_of_yard(yard)
            for number in range(yard.many_jobs()):
                when_done(yard, number, 10)
                when_done(yard, number, 10 ** 6)
            self.assertEqual(all_of_yard(yard), before)

    def test_no_job(self):
        yard = two_cranes()
        before = all_of_yard(yard)
        for thing in no_numbers() + [-1, 4, 10 ** 12]:
            for most in (0, 5, 10 ** 6):
                with self.subTest(repr(thing), most=most):
                    self.assert_refused(errors.NoJob, when_done, yard, thing, most)
        self.assertEqual(all_of_yard(yard), before)


class PlacesIn(Case):
    def test_what_is_told_is_what_comes(self):
        for seed in range(40):
            yard = a_busy_chance(seed).yard
            before = all_of_yard(yard)
            told = [places_in(yard, many) for many in range(40)]
            self.assertEqual(all_of_yard(yard), before)
            came = [yard.places()] + [turn(yard) for _ in range(39)]
            self.assertEqual(told, came)

    def test_no_turn_and_a_thousand(self):
        yard = yard_of(3000, 2, [(1, 1), (1, 1)], [0, 4], [("a", 0), ("b", 2500)], [("x", "a")])
        yard.give("x", "b", 0)
        self.assertEqual(places_in(yard, 0), [0, 4])
        self.assertEqual(places_in(yard, 1), [0, 4])
        self.assertEqual(places_in(yard, 3), [1, 4])
        self.assertEqual(places_in(yard, 1000), [998, 1000])
        self.assertEqual((yard.many_turns(), yard.places()), (0, [0, 4]))

    def test_the_list_is_the_askers(self):
        yard = two_cranes()
        told = places_in(yard, 0)
        self.assertIs(told.__class__, list)
        told.clear()
        self.assertEqual(places_in(yard, 0), [0, 30])
        self.assertEqual(yard.places(), [0, 30])


class Why(Case):
    def assert_why(self, reason, yard, crane):
        told = why(yard, crane)
        self.assertEqual(told, reason)
        if reason is not None:
            self.assertIs(told.__class__, tuple)

    def test_one_that_meets_an_elder_job(self):
        yard = yard_of(
            20, 2, [(9, 3), (9, 1)], [0, 20], [("a", 2), ("b", 8), ("c", 14)], [("x", "a"), ("y", "c")],
        )
        yard.give("x", "b", 0)
        yard.give("y", "b", 1)
        self.assert_why(None, yard, 1)
        turn(yard)
        self.assertEqual((yard.places(), yard.phase(1)), ([2, 14], ("coming", 0)))
        while not yard.is_done(0):
            self.assert_why(("job", 0), yard, 1)
            turn(yard)
        self.assertEqual(yard.phase(1), ("lifting", 1))
        self.assert_why(None, yard, 1)

    def test_the_first_one_that_meets_and_is_not_done(self):
        yard = yard_of(
            40, 2, [(9, 1), (9, 1)], [0, 30],
            [("a", 2), ("b", 8), ("c", 14), ("d", 30)], [("x", "a"), ("y", "a"), ("z", "d"), ("w", "c")],
        )
        # Jobs 0 and 3 don't meet job 4, jobs 1 and 2 do.
        for job in (("y", "b", 0), ("y", "c", 0), ("y", "b", 0), ("x", "b", 0), ("z", "c", 1)):
            yard.give(*job)
        told = []
        for _ in range(60):
            if yard.phase(1)[0] == "coming" and (not told or told[-1] != why(yard, 1)):
                told.append(why(yard, 1))
            turn(yard)
        self.assertEqual(told, [("job", 1), ("job", 2)])

    def test_as_things_are_before_any_turn(self):
        # Both stand at their goals, and nothing was asked yet.
        yard = yard_of(
            40, 3, [(1, 1), (9, 1)], [17, 20], [("a", 17), ("b", 30), ("c", 20), ("d", 39)],
            [("x", "a"), ("y", "c")],
        )
        yard.give("x", "b", 0)
        yard.give("y", "d", 1)
        self.assert_why(None, yard, 0)
        self.assert_why(None, yard, 1)
        # With its goal one farther on, crane 1 would be in its way.
        yard = yard_of(
            40, 3, [(1, 1), (9, 1)], [17, 20], [("a", 18), ("b", 30), ("c", 20), ("d", 39)],
            [("x", "a"), ("y", "c")],
        )
        yard.give("x", "b", 0)
        yard.give("y", "d", 1)
        self.assert_why(("way", 0), yard, 1)

    def test_the_first_crane_of_several(self):
        # Crane 2 stands at 20: crane 0 needs 15 and crane 1 needs 18; they have 14 and 17 at the most.
        for first, second, third, told in (
            ("y", "x", "z", ("way", 0)), ("x", "y", "z", ("way", 0)),
            ("y", "z", "x", ("way", 1)), ("x", "z", "y", ("way", 0)), ("z", "x", "y", None),
        ):
            yard = yard_of(
                40, 3, [(1, 1), (1, 1), (9, 1)], [0, 3, 20],
                [("a", 15), ("b", 18), ("c", 20), ("d", 1), ("e", 4), ("f", 39)],
                [("x", "a"), ("y", "b"), ("z", "c")],
            )
            jobs = {"x": ("x", "d", 0), "y": ("y", "e", 1), "z": ("z", "f", 2)}
            for box in (first, second, third):
                yard.give(*jobs[box])
            with self.subTest(first + second + third):
                self.assert_why(told, yard, 2)

    def test_just_in_the_way_and_not(self):
        for needed, told in ((16, None), (17, None), (18, ("way", 0)), (19, ("way", 0))):
            yard = yard_of(
                40, 3, [(1, 1), (9, 1)], [0, 20], [("a", needed), ("b", 0), ("c", 20), ("d", 39)],
                [("x", "a"), ("y", "c")],
            )
            yard.give("x", "b", 0)
            yard.give("y", "d", 1)
            with self.subTest(needed):
                self.assert_why(told, yard, 1)

    def test_a_job_comes_before_a_way(self):
        # Crane 0 has its goal beyond crane 1, and its job has stack b in common with that of crane 1.
        yard = yard_of(
            40, 3, [(1, 1), (9, 1)], [0, 20], [("a", 25), ("b", 20), ("c", 30)], [("x", "a"), ("y", "b")],
        )
        yard.give("y", "c", 1)
        yard.give("x", "c", 0)
        self.assert_why(None, yard, 1)
        yard = yard_of(
            40, 3, [(1, 1), (9, 1)], [0, 20], [("a", 25), ("b", 20), ("c", 30)], [("x", "a"), ("y", "b")],
        )
        yard.give("x", "c", 0)
        yard.give("y", "c", 1)
        self.assert_why(("job", 0), yard, 1)

    def test_one_that_is_bringing_has_no_job_in_its_way(self):
        yard = yard_of(
            40, 3, [(1, 1), (9, 1)], [0, 30],
            [("a", 21), ("b", 0), ("c", 30), ("d", 20)], [("x", "a"), ("y", "c")],
        )
        yard.give("x", "b", 0)
        yard.give("y", "d", 1)
        gone_on(yard, 4)
        self.assertEqual((yard.places()[1], yard.phase(1)), (20, ("bringing", 0)))
        self.assert_why(("way", 0), yard, 1)

    def test_one_at_work_one_that_is_free_and_one_that_is_not_there(self):
        yard = two_cranes()
        self.assert_why(None, yard, 0)
        turn(yard)
        self.assertEqual(yard.phase(0), ("lifting", 3))
        self.assert_why(None, yard, 0)
        # On its way, though its job meets an elder one.
        self.assertEqual((yard.places()[1], yard.phase(1)), (25, ("coming", 0)))
        self.assert_why(None, yard, 1)
        gone_on(yard, 500)
        self.assert_why(None, yard, 0)
        self.assert_why(None, yard, 1)

    def test_by_the_words(self):
        reasons = {None: 0, "job": 0, "way": 0}
        for seed in range(150):
            chance = a_busy_chance(seed, longest=40, jobs=25)
            for _ in range(60):
                for crane in range(len(chance.cranes)):
                    wanted = why_by_words(chance.yard, crane)
                    self.assert_why(wanted, chance.yard, crane)
                    reasons[wanted and wanted[0]] += 1
                turn(chance.yard)
        self.assertGreater(min(reasons.values()), 20, reasons)

    def test_no_crane(self):
        yard = two_cranes()
        before = all_of_yard(yard)
        for thing in no_numbers() + [-1, 2, 10 ** 12]:
            with self.subTest(repr(thing)):
                self.assert_refused(errors.NoCrane, why, yard, thing)
        self.assertEqual(all_of_yard(yard), before)


if __name__ == "__main__":
    unittest.main()
