"""Point [6]: craneyard/plans.py."""

import unittest

from craneyard import errors
from craneyard.plans import Plan
from craneyard.stacks import Stacks
from things import Case, all_of, no_names, no_numbers


def four():
    """Stack a with x below y, b with z, c and d empty; c may have one box, d may have 6 in weight."""
    stacks = Stacks([("a", 0, 4, 100), ("b", 5, 4, 100), ("c", 9, 1, 100), ("d", 12, 4, 6)])
    stacks.put("x", 5, "a")
    stacks.put("y", 6, "a")
    stacks.put("z", 7, "b")
    return stacks


class Add(Case):
    def test_numbers_and_jobs_as_they_come(self):
        plan = Plan(four())
        self.assertEqual(plan.many(), 0)
        self.assertEqual([plan.add("y", "b"), plan.add("x", "c"), plan.add("y", "d")], [0, 1, 2])
        self.assertEqual([plan.job(number) for number in range(3)], [("y", "a", "b"), ("x", "a", "c"), ("y", "b", "d")])
        self.assertIs(plan.job(0).__class__, tuple)
        self.assertEqual(plan.many(), 3)

    def test_by_what_is_planned_not_by_what_stands(self):
        plan = Plan(four())
        self.assert_refused(errors.Buried, plan.add, "x", "b")
        plan.add("y", "b")
        self.assert_refused(errors.Same, plan.add, "y", "b")
        self.assert_refused(errors.Buried, plan.add, "z", "a")
        plan.add("x", "c")
        self.assert_refused(errors.TooHigh, plan.add, "y", "c")
        plan.add("x", "a")
        plan.add("y", "c")
        self.assertEqual(plan.job(3), ("y", "b", "c"))
        self.assertEqual(plan.many(), 4)

    def test_a_box_forth_and_back(self):
        plan = Plan(four())
        for number in range(30):
            self.assertEqual(plan.add("y", "ba"[number % 2]), number)
        self.assertEqual(plan.job(28), ("y", "a", "b"))
        self.assertEqual(plan.job(29), ("y", "b", "a"))
        self.assertEqual(all_of(plan.planned()), all_of(four()))

    def test_full_by_boxes_just_so_and_by_one(self):
        plan = Plan(four())
        plan.add("z", "c")
        self.assert_refused(errors.TooHigh, plan.add, "y", "c")
        plan.add("z", "b")
        plan.add("y", "c")
        stacks = Stacks([("a", 0, 3, 100), ("b", 5, 2, 100)])
        for box in "xyz":
            stacks.put(box, 1, "a")
        plan = Plan(stacks)
        plan.add("z", "b")
        plan.add("y", "b")
        self.assert_refused(errors.TooHigh, plan.add, "x", "b")

    def test_full_by_weight_just_so_and_by_one(self):
        plan = Plan(four())
        self.assert_refused(errors.TooHeavy, plan.add, "z", "d")
        plan.add("y", "d")
        self.assert_refused(errors.TooHeavy, plan.add, "x", "d")
        plan.add("y", "b")
        plan.add("x", "d")
        stacks = Stacks([("a", 0, 3, 100), ("b", 5, 3, 10)])
        stacks.put("x", 5, "a")
        stacks.put("y", 1, "a")
        stacks.put("z", 5, "a")
        plan = Plan(stacks)
        plan.add("z", "b")
        plan.add("y", "b")
        self.assert_refused(errors.TooHeavy, plan.add, "x", "b")

    def test_box_and_stack_called_alike(self):
        stacks = Stacks([("a", 0, 4, 100), ("b", 5, 4, 100)])
        stacks.put("b", 1, "a")
        stacks.put("a", 1, "a")
        plan = Plan(stacks)
        self.assertEqual([plan.add("a", "b"), plan.add("b", "b")], [0, 1])
        self.assertEqual(plan.job(1), ("b", "a", "b"))

    def test_refused_of_anything(self):
        plan = Plan(four())
        plan.add("y", "b")
        for thing in no_names() + [0, 1, "a", "b", "w", "nobox"]:
            with self.subTest(repr(thing)):
                self.assert_refused(errors.NoBox, plan.add, thing, "c")
                self.assert_refused(errors.NoBox, plan.add, thing, thing)
        for thing in no_names() + [0, 1, "x", "e", "nowhere"]:
            with self.subTest(repr(thing)):
                self.assert_refused(errors.NoStack, plan.add, "y", thing)
                self.assert_refused(errors.NoStack, plan.add, "z", thing)
        self.assertEqual(plan.many(), 1)
        self.assertEqual(plan.planned().boxes("b"), [("z", 7), ("y", 6)])

    def test_the_first_refusal_that_is_told(self):
        stacks = Stacks([("a", 0, 2, 100), ("b", 5, 1, 3), ("c", 9, 2, 3)])
        stacks.put("x", 5, "a")
        stacks.put("y", 6, "a")
        stacks.put("z", 3, "b")
        plan = Plan(stacks)
        before = all_of(plan.planned())
        self.assert_refused(errors.NoBox, plan.add, "w", "nowhere")
        self.assert_refused(errors.NoStack, plan.add, "x", "nowhere")
        self.assert_refused(errors.Same, plan.add, "x", "a")
        self.assert_refused(errors.Same, plan.add, "z", "b")
        self.assert_refused(errors.Buried, plan.add, "x", "b")
        self.assert_refused(errors.Buried, plan.add, "x", "c")
        self.assert_refused(errors.TooHigh, plan.add, "y", "b")
        self.assert_refused(errors.TooHeavy, plan.add, "y", "c")
        self.assert_refused(errors.TooHigh, plan.add, "z", "a")
        self.assertEqual(plan.many(), 0)
        self.assertEqual(all_of(plan.planned()), before)

    def test_what_is_refused_changes_nothing(self):
        plan = Plan(four())
        plan.add("y", "b")
        before = all_of(plan.planned())
        for box, stack in (("w", "a"), ("x", "w"), ("x", "a"), ("z", "a"), ("y", "b")):
            with self.assertRaises(errors.CraneError):
                plan.add(box, stack)
        plan.add("y", "c")
        after = all_of(plan.planned())
        self.assertNotEqual(after, before)
        self.assert_refused(errors.TooHigh, plan.add, "z", "c")
        self.assert_refused(errors.TooHeavy, plan.add, "z", "d")
        self.assertEqual(all_of(plan.planned()), after)
        self.assertEqual((plan.many(), plan.add("x", "b")), (2, 2))


class Asked(Case):
    def test_no_job(self):
        plan = Plan(four())
        for thing in no_numbers() + [-1, 0, 1]:
            with self.subTest(repr(thing)):
                self.assert_refused(errors.NoJob, plan.job, thing)
                self.assert_refused(errors.NoJob, plan.meet, thing, thing)
        plan.add("y", "b")
        plan.add("x", "c")
        for thing in no_numbers() + [-1, -2, 2, 3, 10 ** 12]:
            with self.subTest(repr(thing)):
                self.assert_refused(errors.NoJob, plan.job, thing)
                self.assert_refused(errors.NoJob, plan.meet, thing, 0)
                self.assert_refused(errors.NoJob, plan.meet, 1, thing)
        self.assertEqual(plan.many(), 2)

    def test_meet(self):
        plan = Plan(four())
        for box, stack in (("y", "b"), ("y", "c"), ("x", "d"), ("x", "a")):
            plan.add(box, stack)
        # Jobs a-b, b-c, a-d, d-a.
        told = [[plan.meet(one, other) for other in range(4)] for one in range(4)]
        self.assertEqual(told, [
            [True, True, True, True],
            [True, True, False, False],
            [True, False, True, True],
            [True, False, True, True],
        ])
        for row in told:
            for truth in row:
                self.assertIs(truth.__class__, bool)

    def test_each_way_to_meet(self):
        stacks = Stacks([("a", 0, 9, 100), ("b", 5, 9, 100), ("c", 9, 9, 100), ("d", 12, 9, 100)])
        for box, stack in (("p", "a"), ("q", "a"), ("r", "c")):
            stacks.put(box, 1, stack)
        # Job 0 goes from a to b; the other one starts where it starts, where it ends, ends there, or none of these.
        for box, stack, told in (
            ("p", "c", True), ("p", "b", True), ("q", "d", True), ("q", "a", True),
            ("r", "a", True), ("r", "b", True), ("r", "d", False),
        ):
            plan = Plan(stacks)
            plan.add("q", "b")
            plan.add(box, stack)
            with self.subTest(box=box, stack=stack):
                self.assertIs(plan.meet(0, 1), told)
                self.assertIs(plan.meet(1, 0), told)

    def test_planned(self):
        plan = Plan(four())
        self.assertEqual(all_of(plan.planned()), all_of(four()))
        plan.add("y", "b")
        plan.add("x", "d")
        planned = plan.planned()
        self.assertIs(planned.__class__, Stacks)
        self.assertEqual([planned.boxes(name) for name in "abcd"], [[], [("z", 7), ("y", 6)], [], [("x", 5)]])

    def test_planned_stacks_are_the_askers_own(self):
        plan = Plan(four())
        plan.add("y", "b")
        planned = plan.planned()
        planned.take("b")
        planned.put("new", 1, "c")
        self.assertEqual(plan.planned().boxes("b"), [("z", 7), ("y", 6)])
        self.assertEqual(plan.planned().boxes("c"), [])
        self.assert_refused(errors.NoBox, plan.add, "new", "a")
        early = plan.planned()
        plan.add("y", "c")
        self.assertEqual(early.boxes("b"), [("z", 7), ("y", 6)])

    def test_stacks_that_were_handed_in_stay_and_may_change(self):
        stacks = four()
        plan = Plan(stacks)
        plan.add("y", "b")
        self.assertEqual(all_of(stacks), all_of(four()))
        stacks.take("b")
        stacks.put("new", 1, "a")
        self.assertEqual(plan.planned().boxes("a"), [("x", 5)])
        self.assertEqual(plan.planned().boxes("b"), [("z", 7), ("y", 6)])
        self.assert_refused(errors.NoBox, plan.add, "new", "b")
        self.assertEqual(Plan(stacks).add("new", "b"), 0)

    def test_two_plans_of_the_same_stacks(self):
        stacks = four()
        one, other = Plan(stacks), Plan(stacks)
        one.add("y", "b")
        self.assertEqual((one.many(), other.many()), (1, 0))
        self.assertEqual(other.planned().boxes("b"), [("z", 7)])


if __name__ == "__main__":
    unittest.main()
