"""Points [8], [9] and [10]: craneyard/turns.py, against the model of model.py."""

import unittest

from craneyard import errors
from craneyard.turns import goal, gone_on, ranks, turn
from chance import Chance
from things import Case, all_of, all_of_yard, no_numbers, yard_of


def words(yard):
    return [yard.phase(crane)[0] for crane in range(len(yard.rail.cranes))]


def goals(yard):
    return [goal(yard, crane) for crane in range(len(yard.rail.cranes))]


class Ranks(Case):
    def test_without_jobs_by_their_own_numbers(self):
        for many in range(1, 7):
            yard = yard_of(20, 2, [(1, 1)] * many, [2 * crane for crane in range(many)], [("a", 0)], [])
            self.assertEqual(ranks(yard), list(range(many)))

    def test_by_present_jobs_then_by_their_own_numbers(self):
        stacks = [("a", 6), ("b", 10)]
        yard = yard_of(20, 2, [(1, 1)] * 4, [2, 6, 8, 12], stacks, [("x", "a"), ("y", "b")])
        told = [ranks(yard)]
        for box, stack, crane in (("x", "b", 3), ("x", "a", 1), ("x", "b", 1), ("x", "a", 3), ("x", "b", 0)):
            yard.give(box, stack, crane)
            told.append(ranks(yard))
        self.assertEqual(told, [
            [0, 1, 2, 3], [3, 0, 1, 2], [3, 1, 0, 2], [3, 1, 0, 2], [3, 1, 0, 2], [3, 1, 0, 2],
        ])
        while not yard.is_done(0):
            turn(yard)
        self.assertEqual(ranks(yard), [1, 3, 0, 2])
        while not yard.is_done(1):
            turn(yard)
        self.assertEqual(ranks(yard), [1, 3, 0, 2])
        while not yard.is_done(2):
            turn(yard)
        self.assertEqual(ranks(yard), [3, 0, 1, 2])
        while not yard.is_done(3):
            turn(yard)
        self.assertEqual(ranks(yard), [0, 1, 2, 3])

    def test_a_new_list_and_nothing_changed(self):
        yard = yard_of(20, 2, [(1, 1)] * 2, [2, 6], [("a", 6), ("b", 10)], [("x", "a")])
        yard.give("x", "b", 1)
        before = all_of_yard(yard)
        told = ranks(yard)
        self.assertIs(told.__class__, list)
        told.clear()
        ranks(yard).append(9)
        self.assertEqual(ranks(yard), [1, 0])
        self.assertEqual(all_of_yard(yard), before)


class Goals(Case):
    def test_from_coming_to_lowering(self):
        yard = yard_of(20, 2, [(4, 2)], [0], [("a", 6), ("b", 10)], [("x", "a")])
        self.assertIsNone(goal(yard, 0))
        yard.give("x", "b")
        told = []
        while not yard.is_done(0):
            told.append((yard.phase(0)[0], goal(yard, 0)))
            turn(yard)
        self.assertEqual(told, [
            ("coming", 6), ("coming", 6), ("lifting", None), ("lifting", None),
            ("bringing", 10), ("lowering", None), ("lowering", None),
        ])
        self.assertIsNone(goal(yard, 0))

    def test_a_goal_at_nought(self):
        yard = yard_of(20, 2, [(4, 1)], [9], [("a", 0), ("b", 10)], [("x", "a")])
        yard.give("x", "b")
        self.assertEqual(goal(yard, 0), 0)
        gone_on(yard, 3)
        self.assertEqual((yard.places(), words(yard)), ([0], ["lifting"]))

    def test_no_crane(self):
        yard = yard_of(20, 2, [(4, 2)] * 2, [0, 5], [("a", 6), ("b", 10)], [("x", "a")])
        yard.give("x", "b")
        before = all_of_yard(yard)
        for thing in no_numbers() + [-1, 2, 10 ** 12]:
            with self.subTest(repr(thing)):
                self.assert_refused(errors.NoCrane, goal, yard, thing)
        self.assertEqual(all_of_yard(yard), before)


class Turn(Case):
    def test_it_tells_the_places_in_a_new_list(self):
        yard = yard_of(20, 2, [(4, 2)] * 2, [0, 5], [("a", 6), ("b", 10)], [("x", "a")])
        yard.give("x", "b")
        told = turn(yard)
        self.assertEqual(told, [4, 6])
        self.assertIs(told.__class__, list)
        told[0] = 19
        told.clear()
        self.assertEqual(yard.places(), [4, 6])
        self.assertEqual(yard.many_turns(), 1)

    def test_without_jobs_nothing_goes(self):
        yard = yard_of(20, 2, [(4, 2)] * 2, [0, 5], [("a", 6), ("b", 10)], [("x", "a")])
        before = all_of_yard(yard)
        for at in range(1, 4):
            self.assertEqual(turn(yard), [0, 5])
            self.assertEqual(all_of_yard(yard), (*before[:-1], at))

    def test_a_free_one_is_pushed_away_and_stays_there(self):
        yard = yard_of(20, 3, [(4, 1), (2, 1)], [0, 5], [("a", 10), ("b", 12)], [("x", "a")])
        yard.give("x", "b", 0)
        told = [turn(yard) for _ in range(8)]
        # Crane 1 stays till it must go, and then is no faster than it can.
        self.assertEqual(told[:5], [[4, 7], [6, 9], [8, 11], [10, 13], [10, 13]])
        self.assertEqual(told[5:], [[12, 15], [12, 15], [12, 15]])
        self.assertEqual(words(yard), ["free", "free"])

    def test_the_elder_job_has_the_right_of_way(self):
        for elder, told in ((0, [11, 13]), (1, [7, 9])):
            yard = yard_of(
                20, 2, [(3, 1), (3, 1)], [8, 12], [("b", 18), ("c", 2), ("e", 17)], [("x", "b"), ("y", "c")],
            )
            # Crane 0 wishes to go to the right, crane 1 to the left.
            for crane in (elder, 1 - elder):
                yard.give("xy"[crane], "e", crane)
            with self.subTest(elder):
                self.assertEqual(turn(yard), told)

    def test_where_work_is_over_a_box_is_held_and_one_goes_on_the_turn_after(self):
        yard = yard_of(20, 2, [(4, 1)], [6], [("a", 6), ("b", 10)], [("x", "a")])
        yard.give("x", "b")
        told = []
        for _ in range(5):
            told.append((turn(yard)[0], yard.phase(0), yard.holds(0)))
        self.assertEqual(told, [
            (6, ("lifting", 1), None), (6, ("bringing", 0), "x"), (10, ("lowering", 1), "x"),
            (10, ("free", 0), None), (10, ("free", 0), None),
        ])

    def test_the_next_job_begins_in_the_turn_in_which_the_last_one_is_done(self):
        yard = yard_of(20, 2, [(4, 2)], [6], [("a", 6), ("b", 10)], [("x", "a"), ("y", "b")])
        yard.give("x", "b")
        yard.give("x", "a")
        while not yard.is_done(0):
            turn(yard)
        self.assertEqual((yard.phase(0), yard.holds(0), yard.jobs_of(0)), (("lifting", 2), None, [1]))
        self.assertEqual(yard.stacks().where("x"), "b")

    def test_one_coming_waits_for_an_elder_job_that_meets_its_own(self):
        yard = yard_of(
            20, 2, [(9, 3), (9, 1)], [0, 20],
            [("a", 2), ("b", 8), ("c", 14)], [("x", "a"), ("y", "c")],
        )
        yard.give("x", "b", 0)
        yard.give("y", "b", 1)
        waited = 0
        while not yard.is_done(0):
            self.assertEqual(words(yard)[1], "coming")
            turn(yard)
            waited += yard.places()[1] == 14
        self.assertGreater(waited, 3)
        # In the very turn in which the elder job is done, it begins; crane 0 is free then.
        self.assertEqual((words(yard), yard.phase(1)), (["free", "lifting"], ("lifting", 1)))
        gone_on(yard, 20)
        self.assertEqual(yard.stacks().boxes("b"), [("x", 1), ("y", 1)])

    def test_a_job_that_meets_needs_not_be_present(self):
        yard = yard_of(
            30, 2, [(9, 1), (9, 1)], [0, 30],
            [("a", 2), ("b", 8), ("c", 14), ("d", 20)], [("x", "a"), ("y", "a"), ("z", "c")],
        )
        yard.give("y", "b", 0)
        yard.give("x", "d", 0)
        yard.give("z", "d", 1)
        while not yard.is_done(1):
            self.assertEqual(words(yard)[1], "coming")
            turn(yard)
        gone_on(yard, 20)
        self.assertEqual(yard.stacks().boxes("d"), [("x", 1), ("z", 1)])

    def test_who_does_not_meet_does_not_wait(self):
        yard = yard_of(
            30, 2, [(9, 3), (9, 1)], [0, 24],
            [("a", 2), ("b", 8), ("c", 22), ("d", 28)], [("x", "a"), ("y", "c")],
        )
        yard.give("x", "b", 0)
        yard.give("y", "d", 1)
        turn(yard)
        self.assertEqual(words(yard), ["lifting", "lifting"])
        gone_on(yard, 3)
        self.assertEqual((yard.is_done(0), yard.is_done(1)), (False, True))

    def test_ends_of_work_come_before_beginnings(self):
        # Crane 1, whose job is the lesser one, is looked at first, yet work of crane 0 is over before.
        yard = yard_of(
            30, 2, [(9, 1), (9, 2)], [8, 14],
            [("a", 8), ("b", 4), ("c", 14)], [("x", "a"), ("y", "c"), ("z", "a")],
        )
        yard.give("z", "b", 0)
        yard.give("y", "a", 1)
        told = []
        while not yard.is_done(0):
            turn(yard)
            told.append(words(yard))
        self.assertEqual(told, [
            ["lifting", "coming"], ["bringing", "coming"], ["lowering", "coming"], ["free", "lifting"],
        ])


class Ways(Case):
    """A crane that stands in another one's way does not begin."""

    def two(self, place, needed, elder_coming=True):
        """Crane 0 with the elder job is far off its goal; crane 1 stands at place, and would begin."""
        stacks = [("a", needed), ("b", 0), ("c", place), ("d", 39)]
        if not elder_coming:
            stacks = [("a", 0), ("b", needed), ("c", place), ("d", 39)]
        yard = yard_of(40, 3, [(1, 1), (9, 1)], [0, place], stacks, [("x", "a"), ("y", "c")])
        yard.give("x", "b", 0)
        yard.give("y", "d", 1)
        return yard

    def test_just_in_the_way_of_one_to_the_left_and_by_one(self):
        # Crane 1 at 20 needs crane 0 to have its goal at 17 at the most.
        yard = self.two(20, 17)
        turn(yard)
        self.assertEqual(words(yard), ["coming", "lifting"])
        yard = self.two(20, 18)
        for _ in range(17):
            turn(yard)
            self.assertEqual(words(yard), ["coming", "coming"])
            self.assertEqual(yard.places()[1], 20)
        self.assertEqual(yard.places(), [17, 20])
        turn(yard)
        self.assertEqual((yard.places(), words(yard)), ([18, 21], ["lifting", "coming"]))

    def test_who_has_just_begun_has_no_goal(self):
        # Crane 0 stands at its goal, and begins in this turn before crane 1 is asked.
        yard = yard_of(
            40, 3, [(1, 1), (9, 1)], [17, 20],
            [("a", 17), ("b", 30), ("c", 20), ("d", 39)], [("x", "a"), ("y", "c")],
        )
        yard.give("x", "b", 0)
        yard.give("y", "d", 1)
        turn(yard)
        self.assertEqual(words(yard), ["lifting", "lifting"])
        # Now it is bringing to 30, and crane 1 is at work till the end of this same turn.
        turn(yard)
        self.assertEqual(words(yard), ["bringing", "bringing"])
        self.assertEqual(goals(yard), [30, 39])

    def test_who_is_at_work_has_no_goal(self):
        yard = yard_of(
            40, 3, [(1, 5), (3, 2)], [17, 23],
            [("a", 17), ("b", 30), ("c", 20), ("d", 39)], [("x", "a"), ("y", "c")],
        )
        yard.give("x", "b", 0)
        turn(yard)
        yard.give("y", "d", 1)
        turn(yard)
        self.assertEqual([yard.phase(crane) for crane in (0, 1)], [("lifting", 4), ("lifting", 2)])

    def test_a_goal_that_is_new_in_this_turn_counts(self):
        # Crane 0 ends lifting in the turn in which crane 1 comes to its goal: bringing to 30, it needs the way.
        yard = yard_of(
            40, 3, [(1, 2), (3, 1)], [17, 29],
            [("a", 17), ("b", 30), ("c", 20), ("d", 39)], [("x", "a"), ("y", "c")],
        )
        yard.give("x", "b", 0)
        yard.give("y", "d", 1)
        turn(yard)
        turn(yard)
        self.assertEqual([yard.phase(crane) for crane in (0, 1)], [("lifting", 1), ("coming", 0)])
        turn(yard)
        self.assertEqual((yard.places(), words(yard)), ([17, 20], ["bringing", "coming"]))

    def test_to_the_right(self):
        for needed, word in ((23, "lifting"), (22, "coming")):
            yard = yard_of(
                40, 3, [(9, 1), (1, 1)], [20, 40],
                [("a", needed), ("b", 39), ("c", 20), ("d", 1)], [("x", "a"), ("y", "c")],
            )
            yard.give("x", "b", 1)
            yard.give("y", "d", 0)
            turn(yard)
            with self.subTest(needed):
                self.assertEqual(words(yard), [word, "coming"])

    def test_rooms_for_all_between(self):
        for needed, word in ((14, "lifting"), (15, "coming")):
            yard = yard_of(
                40, 3, [(1, 1), (1, 1), (9, 1)], [0, 8, 20],
                [("a", needed), ("b", 1), ("c", 20), ("d", 39)], [("x", "a"), ("y", "c")],
            )
            yard.give("x", "b", 0)
            yard.give("y", "d", 2)
            turn(yard)
            with self.subTest(needed):
                self.assertEqual(words(yard), ["coming", "free", word])
        for needed, word in ((26, "lifting"), (25, "coming")):
            yard = yard_of(
                40, 3, [(9, 1), (1, 1), (1, 1)], [20, 33, 40],
                [("a", needed), ("b", 39), ("c", 20), ("d", 1)], [("x", "a"), ("y", "c")],
            )
            yard.give("x", "b", 2)
            yard.give("y", "d", 0)
            turn(yard)
            with self.subTest(needed):
                self.assertEqual(words(yard), [word, "free", "coming"])

    def test_the_younger_job_is_in_nobodys_way(self):
        # As in test_just_in_the_way.. by one, but crane 1 has the elder job.
        stacks = [("a", 18), ("b", 0), ("c", 20), ("d", 39)]
        yard = yard_of(40, 3, [(1, 1), (9, 1)], [0, 20], stacks, [("x", "a"), ("y", "c")])
        yard.give("y", "d", 1)
        yard.give("x", "b", 0)
        turn(yard)
        self.assertEqual(words(yard), ["coming", "lifting"])

    def test_one_that_is_bringing_gives_way_too(self):
        yard = yard_of(
            40, 3, [(1, 1), (9, 1)], [0, 30],
            [("a", 21), ("b", 0), ("c", 30), ("d", 20)], [("x", "a"), ("y", "c")],
        )
        yard.give("x", "b", 0)
        yard.give("y", "d", 1)
        told = []
        while words(yard)[0] == "coming":
            turn(yard)
            told.append((yard.places()[1], words(yard)[1]))
        # It brings y to 20, stands there without lowering, and is pushed off.
        self.assertEqual(told[:5], [(30, "lifting"), (30, "bringing"), (21, "bringing"), (20, "bringing"),
                                    (20, "bringing")])
        self.assertEqual(told[-1], (24, "bringing"))
        gone_on(yard, 60)
        self.assertEqual(yard.stacks().where("y"), "d")


class GoneOn(Case):
    def test_so_many_turns(self):
        for many in (0, 1, 2, 7, 30, 1000):
            one, other = Chance(many), Chance(many)
            for chance in (one, other):
                for _ in range(6):
                    chance.give()
            self.assertIsNone(gone_on(one.yard, many))
            for _ in range(many):
                turn(other.yard)
            self.assertEqual(all_of_yard(one.yard), all_of_yard(other.yard))
            self.assertEqual(one.yard.many_turns(), many)

    def test_no_turn_changes_nothing(self):
        chance = Chance(5)
        chance.give()
        before = all_of_yard(chance.yard)
        gone_on(chance.yard, 0)
        self.assertEqual(all_of_yard(chance.yard), before)


def told_by(thing, cranes):
    """What yard and model both tell of their cranes."""
    return [(thing.jobs_of(crane), thing.phase(crane), thing.holds(crane)) for crane in range(cranes)]


class AsModelled(Case):
    def give_some(self, chance, at):
        for _ in range(chance.random.choice((0, 0, 1, 3)) if at < 25 else 0):
            chance.give()

    def compare(self, chance):
        yard, model = chance.yard, chance.model
        cranes = len(chance.cranes)
        self.assertEqual(yard.places(), model.places)
        self.assertEqual(told_by(yard, cranes), told_by(model, cranes))
        self.assertEqual(goals(yard), [model.goal(crane) for crane in range(cranes)])
        self.assertEqual(ranks(yard), model.ranks())
        now = yard.stacks()
        self.assertEqual({name: now.boxes(name) for name in now.names()}, model.piles)
        self.assertEqual(yard.many_turns(), model.turns)

    def test_turn_by_turn(self):
        for seed in range(300):
            chance = Chance(seed)
            at = 0
            while at < 25 or chance.model.undone():
                self.give_some(chance, at)
                with self.subTest(seed=seed, at=at):
                    self.compare(chance)
                    chance.model.turn()
                    self.assertEqual(turn(chance.yard), chance.model.places)
                at += 1
            self.compare(chance)


class Promised(Case):
    """Point [10], and what the moves promise, for more and longer yards than the model can search."""

    def bounds(self, yard):
        """As [10] tells them, of all jobs that aren't done."""
        greatest = max(hoist for _, hoist in yard.rail.cranes)
        total = 0
        told = {}
        for number in range(yard.many_jobs()):
            if not yard.is_done(number):
                total += 2 * (yard.rail.end + greatest + yard.rail.cranes[yard.crane_of(number)][1])
                told[number] = total
        return told

    def check_turn(self, yard):
        before = yard.places()
        at_work = [yard.phase(crane)[1] > 0 for crane in range(len(before))]
        behind = turn(yard)
        self.assertTrue(yard.rail.are_apart(behind))
        for crane, (speed, _) in enumerate(yard.rail.cranes):
            self.assertLessEqual(abs(behind[crane] - before[crane]), 0 if at_work[crane] else speed)

    def test_all_jobs_within_their_bounds_and_stacks_as_planned(self):
        for seed in range(200):
            chance = Chance(seed, 6, seed % 40 + 6, 4 if seed % 2 else 1, 9)
            yard = chance.yard
            wanted = chance.stacks.copied()
            last = {}
            at = 0
            while at < 30 or last:
                for _ in range(chance.random.choice((0, 0, 1, 3)) if at < 30 else 0):
                    number = chance.give()
                    if number is not None:
                        _, origin, target = yard.job(number)
                        wanted.put(*wanted.take(origin), target)
                for number, turns in self.bounds(yard).items():
                    last[number] = min(last.get(number, at + turns), at + turns)
                self.check_turn(yard)
                at += 1
                last = {number: turns for number, turns in last.items() if not yard.is_done(number)}
                self.assertTrue(all(at < turns for turns in last.values()), (seed, at, last))
            self.assertEqual(all_of(yard.stacks()), all_of(wanted))


if __name__ == "__main__":
    unittest.main()
