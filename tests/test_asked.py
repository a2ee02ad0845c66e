"""Point [11], asked often: craneyard/aheads.py by craneyard/forecast.py, against plain turns on copies of the yards."""

import random
import unittest
from unittest import mock

from craneyard import errors, turns
from craneyard.forecast import places_in, when_done
from craneyard.journals import redone
from craneyard.turns import gone_on, turn
from chance import Chance
from things import Case, all_of_yard, yard_of

# Six slow cranes, beside one another and long at work.
TEXT = "\n".join([
    "rail 49 1",
    "crane 1 9 0", "crane 1 9 4", "crane 1 9 8", "crane 1 9 12", "crane 1 9 16", "crane 1 9 20",
    "stack oak 10 5 1000000000", "stack elm 15 5 1000000000", "stack ash 20 5 1000000000",
    "stack fir 25 5 1000000000", "stack yew 30 5 1000000000",
    "box a 1 oak", "box b 2 elm", "box c 5 ash", "box d 10 fir", "box e 17 yew", "box f 26 oak", "box g 37 elm",
])
JOBS = ["f ash", "g yew", "d oak", "b fir", "f elm", "c yew", "c ash", "f yew", "d ash", "a elm"]


def a_slow_yard():
    return redone(TEXT, ["give " + job for job in JOBS]).yard()


def a_chance(seed):
    """Small yards and longer ones, some of which have jobs already."""
    chance = Chance(
        seed, most_cranes=6, longest=(6, 15, 40, 90)[seed % 4], greatest_speed=(1, 3, 9)[seed % 3], greatest_hoist=9,
    )
    for _ in range(seed % 9):
        chance.give()
    return chance


def by_plain_turns(yard, many):
    """The rows of places behind 0 to so many turns, and in how many each job is done that is done within them."""
    copy = yard.copied()
    rows, dones = [copy.places()], {}
    for gone in range(many + 1):
        if gone > 0:
            rows.append(turn(copy))
        for number in range(copy.many_jobs()):
            if copy.is_done(number):
                dones.setdefault(number, gone)
    return rows, dones


class Asking(Case):
    def check(self, yard, many):
        """All that may be asked up to so many turns ahead, in the order of the numbers."""
        rows, dones = by_plain_turns(yard, many)
        self.assertEqual(places_in(yard, many), rows[many])
        for number in range(yard.many_jobs()):
            self.assertEqual(when_done(yard, number, many), dones.get(number), (number, many))

    def check_some(self, yard, pick, many):
        """Some of it, in any order, with any number of turns up to so many."""
        rows, dones = by_plain_turns(yard, many)
        for _ in range(6):
            most = pick.choice((0, 1, 2, 3, many // 2, many - 1, many))
            self.assertEqual(places_in(yard, most), rows[most])
            for number in pick.sample(range(yard.many_jobs()), min(yard.many_jobs(), 4)):
                done = dones.get(number, many + 1)
                self.assertEqual(when_done(yard, number, most), done if done <= most else None, (number, most))


class AsPlainTurns(Asking):
    def test_a_slow_yard_three_turns_ahead_till_all_is_done(self):
        yard = a_slow_yard()
        while not all(yard.is_done(number) for number in range(10)):
            with self.subTest(yard.many_turns()):
                self.check(yard, 3)
                turn(yard)
        self.assertEqual(yard.many_turns(), 323)
        self.check(yard, 3)

    def test_a_slow_yard_any_turns_ahead(self):
        yard, pick = a_slow_yard(), random.Random(5)
        for at in range(40):
            with self.subTest(at):
                self.check_some(yard, pick, pick.choice((4, 12, 60, 200)))
                gone_on(yard, pick.choice((0, 1, 2, 11)))

    def test_small_yards_three_turns_ahead(self):
        for seed in range(200):
            yard = a_chance(seed).yard
            for at in range(40):
                with self.subTest(seed=seed, at=at):
                    self.check(yard, 3)
                    turn(yard)

    def test_jobs_are_given_between_the_questions(self):
        for seed in range(150):
            chance, pick = a_chance(seed), random.Random(seed)
            for at in range(25):
                with self.subTest(seed=seed, at=at):
                    self.check_some(chance.yard, pick, pick.choice((4, 12, 40)))
                    for _ in range(pick.choice((0, 0, 1, 2))):
                        chance.give()
                    self.check_some(chance.yard, pick, pick.choice((4, 12, 40)))
                    gone_on(chance.yard, pick.choice((0, 1, 1, 5, 50)))

    def test_copies_that_are_asked_too_and_go_their_own_ways(self):
        for seed in range(80):
            one, pick = a_chance(seed), random.Random(seed)
            yards = [one.yard]
            for at in range(20):
                one.yard = pick.choice(yards)
                with self.subTest(seed=seed, at=at):
                    for yard in yards:
                        self.check_some(yard, pick, 12)
                    if len(yards) < 3:
                        yards.append(one.yard.copied())
                    if pick.random() < 0.5:
                        one.give()
                    gone_on(one.yard, pick.choice((0, 1, 4)))

    def test_far_ahead_first_and_then_near(self):
        for seed in range(60):
            yard = a_chance(seed).yard
            for at in range(15):
                numbers = range(yard.many_jobs())
                far = [when_done(yard, number, 10 ** 6) for number in numbers]
                with self.subTest(seed=seed, at=at):
                    self.assertNotIn(None, far)
                    self.assertEqual([when_done(yard.copied(), number, 10 ** 6) for number in numbers], far)
                    self.check(yard, 3)
                    self.check(yard, 20)
                    turn(yard)


class Given(Case):
    """What was told ahead is told anew once a job is given, and only then."""

    def asked_before(self):
        """Crane 0 is lifting x, which it brings from a to b in seven turns; crane 1 is free and stands above y."""
        yard = yard_of(
            40, 3, [(9, 2), (9, 9)], [4, 20], [("a", 4), ("b", 30), ("c", 20), ("d", 39)], [("x", "a"), ("y", "c")],
        )
        yard.give("x", "b", 0)
        turn(yard)
        self.assertEqual(when_done(yard, 0, 200), 7)
        self.assertEqual(places_in(yard, 7), [30, 33])
        return yard

    def test_a_new_job_keeps_an_elder_one_back(self):
        yard = self.asked_before()
        # One that is lifting has no goal, so crane 1 is in nobody's way, and stays at work for nine turns.
        yard.give("y", "d", 1)
        self.assertEqual([when_done(yard, number, 200) for number in (0, 1)], [14, 22])
        self.assertIsNone(when_done(yard, 0, 13))
        self.assertEqual(places_in(yard, 7), [17, 20])

    def test_a_copy_that_is_given_a_job(self):
        yard = self.asked_before()
        alike = yard.copied()
        self.assertEqual(when_done(alike, 0, 200), 7)
        alike.give("y", "d", 1)
        self.assertEqual((when_done(yard, 0, 200), when_done(alike, 0, 200)), (7, 14))
        yard.give("y", "d", 1)
        gone_on(yard, 4)
        self.assertEqual((when_done(yard, 0, 200), when_done(alike, 0, 200)), (10, 14))

    def test_what_is_refused_changes_nothing(self):
        yard = self.asked_before()
        self.assert_refused(errors.Same, yard.give, "y", "c")
        self.assert_refused(errors.NoCrane, yard.give, "y", "d", 2)
        self.assert_refused(errors.NoJob, when_done, yard, 1, 200)
        self.assertEqual(when_done(yard, 0, 200), 7)
        turn(yard)
        self.assertEqual(when_done(yard, 0, 200), 6)


class Sparing(unittest.TestCase):
    """That the answers are quick, told by how many turns are gone for them, as no clock is asked."""

    def turns_for(self, action):
        """How many turns are gone by any yard or ahead of it."""
        with mock.patch.object(turns, "moved", wraps=turns.moved) as moved:
            action()
        return moved.call_count

    def test_eleven_hundred_questions_and_a_hundred_turns(self):
        yard = a_slow_yard()

        def ask():
            for _ in range(100):
                places_in(yard, 3)
                for number in range(10):
                    when_done(yard, number, 3)
                turn(yard)

        # The turns themselves, three for each row of places, and those ahead, each of them once.
        self.assertLessEqual(self.turns_for(ask), 100 + 300 + 103)

    def test_what_was_told_is_told_again_without_any_turn(self):
        yard = a_slow_yard()
        self.assertGreater(self.turns_for(lambda: when_done(yard, 9, 200)), 0)
        for most in (200, 3, 0, 199):
            self.assertEqual(self.turns_for(lambda: [when_done(yard, number, most) for number in range(10)]), 0)
        gone_on(yard, 100)
        self.assertEqual(self.turns_for(lambda: [when_done(yard, number, 100) for number in range(10)]), 0)

    def test_turns_that_went_unasked_are_not_gone_again(self):
        yard = a_slow_yard()
        when_done(yard, 9, 3)
        gone_on(yard, 200)
        self.assertEqual(self.turns_for(lambda: [when_done(yard, number, 3) for number in range(10)]), 3)

    def test_a_long_way_is_few_turns(self):
        yard = yard_of(10 ** 6, 3, [(7, 1), (1, 1)], [0, 10], [("a", 0), ("b", 900000)], [("x", "a")])
        yard.give("x", "b", 0)
        before = all_of_yard(yard)
        self.assertLess(self.turns_for(lambda: when_done(yard, 0, 10 ** 6)), 50)
        self.assertLess(self.turns_for(lambda: places_in(yard, 1000)), 50)
        self.assertEqual(when_done(yard, 0, 10 ** 6), 3 + (900000 - 7) + 1)
        self.assertEqual(all_of_yard(yard), before)


if __name__ == "__main__":
    unittest.main()
