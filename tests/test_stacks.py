"""Point [5]: craneyard/stacks.py."""

import unittest

from craneyard import errors
from craneyard.stacks import Stacks
from things import Case, all_of, no_names, no_numbers

ROWS = [("left", 3, 2, 10), ("mid", 0, 3, 100), ("away", 10 ** 12, 20, 10 ** 12)]


def some():
    """Three stacks, with boxes on two of them, one box called like a stack."""
    stacks = Stacks(list(ROWS))
    stacks.put("one", 4, "left")
    stacks.put("two", 5, "mid")
    stacks.put("left", 6, "mid")
    return stacks


class Made(Case):
    def assert_bad(self, rows):
        self.assert_refused(errors.BadStack, Stacks, rows)

    def test_what_is_told(self):
        stacks = Stacks(list(ROWS))
        self.assertEqual(stacks.names(), ["away", "left", "mid"])
        for name, place, high, weight in ROWS:
            with self.subTest(name):
                self.assertEqual(stacks.place_of(name), place)
                self.assertEqual(stacks.high(name), high)
                self.assertEqual(stacks.weight(name), weight)
                self.assertEqual(stacks.boxes(name), [])

    def test_one_and_twenty_stacks(self):
        letters = "abcdefghijklmnopqrstu"
        rows = [(letter, 2 * at, 1, 1) for at, letter in enumerate(letters)]
        self.assertEqual(Stacks(rows[:1]).names(), ["a"])
        self.assertEqual(Stacks(rows[:20][::-1]).names(), list(letters[:20]))
        self.assert_bad(rows[:21])
        self.assert_bad([])

    def test_bounds(self):
        for good, bad in (
            (("abcdefgh", 0, 1, 1), ("abcdefghi", 0, 1, 1)),
            (("a", 0, 1, 1), ("", 0, 1, 1)),
            (("z", 0, 1, 1), ("Z", 0, 1, 1)),
            (("a", 0, 1, 1), ("a", -1, 1, 1)),
            (("a", 10 ** 12, 1, 1), ("a", 10 ** 12 + 1, 1, 1)),
            (("a", 5, 1, 1), ("a", 5, 0, 1)),
            (("a", 5, 20, 1), ("a", 5, 21, 1)),
            (("a", 5, 20, 1), ("a", 5, 20, 0)),
            (("a", 5, 20, 10 ** 12), ("a", 5, 20, 10 ** 12 + 1)),
        ):
            with self.subTest(bad):
                stacks = Stacks([("other", 9, 9, 9), good])
                self.assertEqual((stacks.place_of(good[0]), stacks.high(good[0]), stacks.weight(good[0])), good[1:])
                self.assert_bad([("other", 9, 9, 9), bad])
                self.assert_bad([bad])

    def test_names_and_places_unlike(self):
        self.assert_bad([("a", 1, 1, 1), ("a", 2, 1, 1)])
        self.assert_bad([("a", 1, 1, 1), ("b", 1, 1, 1)])
        self.assert_bad([("a", 1, 1, 1), ("b", 2, 1, 1), ("c", 1, 1, 1)])
        self.assert_bad([("a", 1, 1, 1), ("b", 2, 1, 1), ("a", 3, 1, 1)])
        self.assert_bad([("a", 1, 1, 1), ("a", 1, 1, 1)])
        self.assertEqual(Stacks([("a", 1, 7, 7), ("b", 2, 7, 7)]).names(), ["a", "b"])

    def test_of_anything(self):
        row = ("a", 1, 1, 1)
        for thing in no_numbers() + [0, 1, (row,), {row: row}, {row}, [list(row)], [row[:3]], [row + (1,)], "aaaa"]:
            with self.subTest(repr(thing)):
                self.assert_bad(thing)
                if thing != row:
                    self.assert_bad([thing])
                    self.assert_bad([row, thing])

    def test_of_anything_within_a_row(self):
        for thing in no_names() + [0, 1]:
            with self.subTest(repr(thing)):
                self.assert_bad([(thing, 1, 1, 1)])
        for thing in no_numbers():
            with self.subTest(repr(thing)):
                self.assert_bad([("a", thing, 1, 1)])
                self.assert_bad([("a", 1, thing, 1)])
                self.assert_bad([("a", 1, 1, thing)])

    def test_what_was_handed_in_stays_and_may_change(self):
        rows = list(ROWS)
        stacks = Stacks(rows)
        stacks.put("one", 4, "left")
        self.assertEqual(rows, ROWS)
        rows[0] = ("other", 1, 1, 1)
        rows.clear()
        self.assertEqual(stacks.names(), ["away", "left", "mid"])
        self.assertEqual(stacks.place_of("left"), 3)


class Asked(Case):
    def test_boxes_from_below(self):
        stacks = some()
        self.assertEqual(stacks.boxes("mid"), [("two", 5), ("left", 6)])
        self.assertEqual(stacks.boxes("left"), [("one", 4)])
        self.assertEqual(stacks.boxes("away"), [])

    def test_bounds_stay_as_told_whatever_lies_there(self):
        stacks = some()
        self.assertEqual((stacks.place_of("mid"), stacks.high("mid"), stacks.weight("mid")), (0, 3, 100))

    def test_where_and_top(self):
        stacks = some()
        self.assertEqual([stacks.where(box) for box in ("one", "two", "left")], ["left", "mid", "mid"])
        self.assertIs(stacks.is_top("one"), True)
        self.assertIs(stacks.is_top("two"), False)
        self.assertIs(stacks.is_top("left"), True)

    def test_no_stack(self):
        stacks = some()
        before = all_of(stacks)
        for thing in no_names() + [0, 1, "lef", "leftx", "one", "two", "nowhere"]:
            for action in (stacks.place_of, stacks.high, stacks.weight, stacks.boxes, stacks.take):
                with self.subTest(repr(thing), action=action.__name__):
                    self.assert_refused(errors.NoStack, action, thing)
        self.assertEqual(all_of(stacks), before)

    def test_no_box(self):
        stacks = some()
        before = all_of(stacks)
        for thing in no_names() + [0, 1, "on", "onex", "mid", "away", "nobox"]:
            for action in (stacks.where, stacks.is_top):
                with self.subTest(repr(thing), action=action.__name__):
                    self.assert_refused(errors.NoBox, action, thing)
        self.assertEqual(all_of(stacks), before)

    def test_told_lists_are_the_askers_own(self):
        stacks = some()
        before = all_of(stacks)
        for told in (stacks.names(), stacks.boxes("mid"), stacks.boxes("away")):
            told.append(("more", 1))
            told[0] = "changed"
            told.reverse()
        self.assertEqual(all_of(stacks), before)
        early = stacks.boxes("mid")
        stacks.take("mid")
        stacks.put("three", 1, "mid")
        self.assertEqual(early, [("two", 5), ("left", 6)])

    def test_lists_of_tuples(self):
        self.assertEqual([part.__class__ for part in some().boxes("mid")], [tuple, tuple])
        self.assertIs(some().boxes("mid").__class__, list)
        self.assertIs(some().names().__class__, list)


class Put(Case):
    def test_it_lies_on_top_then(self):
        stacks = some()
        self.assertIsNone(stacks.put("three", 7, "mid"))
        self.assertEqual(stacks.boxes("mid"), [("two", 5), ("left", 6), ("three", 7)])
        self.assertEqual(stacks.where("three"), "mid")
        self.assertIs(stacks.is_top("left"), False)
        self.assertIs(stacks.is_top("three"), True)

    def test_a_box_called_like_its_stack(self):
        stacks = some()
        stacks.put("away", 1, "away")
        self.assertEqual(stacks.where("away"), "away")
        self.assertEqual(stacks.take("away"), ("away", 1))

    def test_weights(self):
        stacks = Stacks([("a", 1, 20, 10 ** 12)])
        for weight in (0, -1, 10 ** 12 + 1, 10 ** 50):
            self.assert_refused(errors.BadNumber, stacks.put, "x", weight, "a")
        self.assertEqual(stacks.boxes("a"), [])
        stacks.put("x", 10 ** 12, "a")
        stacks.take("a")
        stacks.put("y", 1, "a")
        self.assertEqual(stacks.boxes("a"), [("y", 1)])

    def test_full_by_boxes(self):
        for high in (1, 2, 20):
            stacks = Stacks([("a", 1, high, 10 ** 12)])
            for at in range(high):
                stacks.put("abcdefghijklmnopqrstuvwxyz"[at], 1, "a")
            before = all_of(stacks)
            self.assertEqual(len(stacks.boxes("a")), high)
            self.assert_refused(errors.TooHigh, stacks.put, "more", 1, "a")
            self.assertEqual(all_of(stacks), before)
            self.assert_refused(errors.NoBox, stacks.where, "more")

    def test_full_by_weight(self):
        for first, weight in ((1, 9), (9, 1), (4, 6), (5, 5)):
            stacks = Stacks([("a", 1, 5, 10)])
            stacks.put("x", first, "a")
            self.assert_refused(errors.TooHeavy, stacks.put, "y", weight + 1, "a")
            self.assertEqual(stacks.boxes("a"), [("x", first)])
            self.assert_refused(errors.NoBox, stacks.where, "y")
            stacks.put("y", weight, "a")
            self.assertEqual(stacks.boxes("a"), [("x", first), ("y", weight)])
            self.assert_refused(errors.TooHeavy, stacks.put, "z", 1, "a")

    def test_all_boxes_weigh_together(self):
        stacks = Stacks([("a", 1, 5, 10)])
        for box in "xyz":
            stacks.put(box, 3, "a")
        self.assert_refused(errors.TooHeavy, stacks.put, "more", 2, "a")
        stacks.put("more", 1, "a")
        stacks.take("a")
        stacks.take("a")
        self.assert_refused(errors.TooHeavy, stacks.put, "again", 5, "a")
        stacks.put("again", 4, "a")

    def test_too_heavy_for_an_empty_stack(self):
        stacks = Stacks([("a", 1, 5, 10)])
        self.assert_refused(errors.TooHeavy, stacks.put, "x", 11, "a")
        stacks.put("x", 10, "a")

    def test_refused_of_anything(self):
        stacks = some()
        before = all_of(stacks)
        for thing in no_names() + [0, 1]:
            with self.subTest(repr(thing)):
                self.assert_refused(errors.BadName, stacks.put, thing, 1, "away")
                self.assert_refused(errors.NoStack, stacks.put, "new", 1, thing)
        for thing in no_numbers():
            with self.subTest(repr(thing)):
                self.assert_refused(errors.BadNumber, stacks.put, "new", thing, "away")
        for box in ("one", "two", "left"):
            for stack in ("left", "mid", "away"):
                self.assert_refused(errors.Twice, stacks.put, box, 1, stack)
        self.assertEqual(all_of(stacks), before)

    def test_the_first_refusal_that_is_told(self):
        stacks = Stacks([("full", 1, 1, 10), ("free", 2, 2, 10)])
        stacks.put("x", 5, "full")
        put = stacks.put
        for thing in no_numbers():
            self.assert_refused(errors.BadName, put, "", thing, "nowhere")
            self.assert_refused(errors.BadNumber, put, "x", thing, thing)
        self.assert_refused(errors.BadNumber, put, "x", 0, "nowhere")
        self.assert_refused(errors.NoStack, put, "x", 11, "nowhere")
        self.assert_refused(errors.Twice, put, "x", 11, "full")
        self.assert_refused(errors.Twice, put, "x", 11, "free")
        self.assert_refused(errors.TooHigh, put, "y", 11, "full")
        self.assert_refused(errors.TooHeavy, put, "y", 11, "free")
        self.assertEqual(stacks.boxes("full") + stacks.boxes("free"), [("x", 5)])


class Take(Case):
    def test_the_uppermost_one_which_is_gone(self):
        stacks = some()
        taken = stacks.take("mid")
        self.assertEqual(taken, ("left", 6))
        self.assertIs(taken.__class__, tuple)
        self.assertEqual(stacks.boxes("mid"), [("two", 5)])
        self.assertIs(stacks.is_top("two"), True)
        self.assert_refused(errors.NoBox, stacks.where, "left")
        self.assert_refused(errors.NoBox, stacks.is_top, "left")
        self.assertEqual(stacks.take("mid"), ("two", 5))
        self.assert_refused(errors.Empty, stacks.take, "mid")
        self.assertEqual(stacks.boxes("left"), [("one", 4)])

    def test_what_is_gone_may_be_put_anew(self):
        stacks = some()
        stacks.put(*stacks.take("mid"), "away")
        stacks.take("left")
        stacks.put("one", 9, "left")
        self.assertEqual(stacks.boxes("away"), [("left", 6)])
        self.assertEqual(stacks.boxes("left"), [("one", 9)])
        self.assertEqual(stacks.where("left"), "away")

    def test_empty(self):
        stacks = some()
        before = all_of(stacks)
        self.assert_refused(errors.Empty, stacks.take, "away")
        self.assertEqual(all_of(stacks), before)


class Copied(Case):
    def test_alike(self):
        stacks = some()
        alike = stacks.copied()
        self.assertIs(alike.__class__, Stacks)
        self.assertIsNot(alike, stacks)
        self.assertEqual(all_of(alike), all_of(stacks))

    def test_each_goes_on_by_itself(self):
        for first in (True, False):
            one = some()
            other = one.copied()
            if first:
                one, other = other, one
            before = all_of(other)
            one.take("mid")
            one.put("three", 1, "away")
            one.take("left")
            one.put("left", 1, "left")
            self.assertEqual(all_of(other), before)
            self.assert_refused(errors.NoBox, other.where, "three")
            self.assertEqual(one.boxes("left"), [("left", 1)])
            self.assertEqual(one.boxes("mid"), [("two", 5)])

    def test_a_copy_of_a_copy(self):
        stacks = some()
        alike = stacks.copied().copied()
        stacks.take("mid")
        self.assertEqual(all_of(alike), all_of(some()))


if __name__ == "__main__":
    unittest.main()
