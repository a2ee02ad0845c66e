"""Point [12]: craneyard/texts.py."""

import unittest

from craneyard.stacks import Stacks
from craneyard.rails import Rail
from craneyard.texts import yard_of
from craneyard.turns import gone_on
from craneyard.yards import Yard
from chance import LETTERS, Chance
from things import Case, all_of_yard, no_texts

ROWS = [
    "rail 20 4",
    "crane 3 2 1",
    "crane 5 1 7",
    "crane 4 3 15",
    "stack b 8 3 50",
    "stack a 0 2 11",
    "stack d 20 20 1000000000000",
    "box x 5 a",
    "box z 4 b",
    "box y 6 a",
    "box a 1000000000000 d",
]
RAIL = 0
CRANE = 1
STACK = 4
BOX = 7


def text_of(*rows):
    return "\n".join(rows)


def with_row(at, row):
    """The good text with another row at this number."""
    return text_of(*ROWS[:at], row, *ROWS[at + 1:])


class Texts(Case):
    """Each text is tried as it is, and with more rows behind it that are good, bad or empty."""

    def assert_good(self, text):
        self.assertIs(yard_of(text).__class__, Yard)

    def assert_bad(self, line, text):
        with self.subTest(text):
            self.assert_bad_text(line, yard_of, text)

    def assert_bad_row(self, at, row):
        self.assert_bad(at, with_row(at, row))
        self.assert_bad(at, text_of(*ROWS[:at], row))
        self.assert_bad(at, text_of(*ROWS[:at], row, "no row"))
        self.assert_bad(at, text_of(*ROWS[:at], row, ""))


class Good(Texts):
    def test_all_of_it(self):
        stacks = Stacks([("b", 8, 3, 50), ("a", 0, 2, 11), ("d", 20, 20, 10 ** 12)])
        for box, weight, stack in (("x", 5, "a"), ("z", 4, "b"), ("y", 6, "a"), ("a", 10 ** 12, "d")):
            stacks.put(box, weight, stack)
        yard = yard_of(text_of(*ROWS))
        self.assertIs(yard.__class__, Yard)
        self.assertEqual(all_of_yard(yard), all_of_yard(Yard(Rail(20, 4, [(3, 2), (5, 1), (4, 3)]), stacks, [1, 7, 15])))
        self.assertEqual((yard.rail.end, yard.rail.room, yard.rail.cranes), (20, 4, ((3, 2), (5, 1), (4, 3))))
        self.assertEqual((yard.many_jobs(), yard.many_turns()), (0, 0))
        self.assertEqual(yard.stacks().boxes("a"), [("x", 5), ("y", 6)])

    def test_one_crane_and_one_stack(self):
        yard = yard_of("rail 1 1000000\ncrane 1 1 0\nstack a 1 1 1")
        self.assertEqual((yard.rail.end, yard.rail.room, yard.rail.cranes), (1, 10 ** 6, ((1, 1),)))
        self.assertEqual((yard.places(), yard.stacks().names(), yard.stacks().boxes("a")), ([0], ["a"], []))
        self.assertEqual([yard.stacks().place_of("a"), yard.stacks().high("a"), yard.stacks().weight("a")], [1, 1, 1])

    def test_six_cranes_and_twenty_stacks(self):
        rows = ["rail 1000000000000 1000000"]
        rows += [f"crane 1000000000 1000 {10 ** 12 - (5 - crane) * 10 ** 6}" for crane in range(6)]
        rows += [f"stack {LETTERS[at]} {at * 10 ** 6} 20 1000000000000" for at in range(20)]
        rows += [f"box {LETTERS[at]} 1 a" for at in range(20)]
        yard = yard_of(text_of(*rows))
        self.assertEqual(yard.rail.cranes, ((10 ** 9, 1000),) * 6)
        self.assertEqual(yard.places()[5], 10 ** 12)
        self.assertEqual(yard.stacks().names(), list(LETTERS[:20]))
        self.assertEqual(yard.stacks().boxes("a"), [(letter, 1) for letter in LETTERS[:20]])

    def test_as_chance_made_it(self):
        for seed in range(80):
            chance = Chance(seed, most_cranes=6, longest=30)
            yard = yard_of(chance.text())
            self.assertEqual(all_of_yard(yard), all_of_yard(chance.yard))
            self.assertEqual(yard.rail.cranes, chance.rail.cranes)
            while chance.give() is not None:
                yard.give(*chance_job(chance))
            gone_on(chance.yard, 20)
            gone_on(yard, 20)
            self.assertEqual(all_of_yard(yard), all_of_yard(chance.yard))

    def test_each_yard_is_a_new_one(self):
        one, other = yard_of(text_of(*ROWS)), yard_of(text_of(*ROWS))
        one.give("y", "b", 0)
        gone_on(one, 50)
        self.assertEqual(all_of_yard(other), all_of_yard(yard_of(text_of(*ROWS))))

    def test_boxes_of_unlike_stacks_in_any_order(self):
        mixed = ROWS[:BOX] + ["box a 1000000000000 d", "box x 5 a", "box y 6 a", "box z 4 b"]
        self.assertEqual(all_of_yard(yard_of(text_of(*mixed))), all_of_yard(yard_of(text_of(*ROWS))))
        turned = ROWS[:BOX] + ["box y 6 a", "box x 5 a"]
        self.assertEqual(yard_of(text_of(*turned)).stacks().boxes("a"), [("y", 6), ("x", 5)])


def chance_job(chance):
    """The last job of the yard of chance, as it is given."""
    number = chance.yard.many_jobs() - 1
    box, _, target = chance.yard.job(number)
    return box, target, chance.yard.crane_of(number)


class Rows(Texts):
    def test_of_anything(self):
        for thing in no_texts() + [0, 1, ROWS, tuple(ROWS), [text_of(*ROWS)], text_of(*ROWS).encode()]:
            with self.subTest(repr(thing)):
                self.assert_bad_text(0, yard_of, thing)

    def test_no_rows(self):
        for text in ("", " ", "\n", "\n\n", "\t"):
            self.assert_bad(0, text)

    def test_an_empty_row(self):
        for at in range(len(ROWS) + 1):
            self.assert_bad(at, text_of(*ROWS[:at], "", *ROWS[at:]))

    def test_a_line_end_behind_the_last_row(self):
        for many in (CRANE + 1, STACK, STACK + 1, BOX, BOX + 1, len(ROWS)):
            self.assert_bad(many, text_of(*ROWS[:many], ""))
            self.assert_bad(many, text_of(*ROWS[:many], "", ""))

    def test_a_row_of_another_kind(self):
        for at in range(len(ROWS) + 1):
            for row in ("ship 1 2", "Rail 20 4", "cranes 3 2 1", "stac a 1 2 3", "boxe x 5 a", "give x a", "turn", "0"):
                self.assert_bad(at, text_of(*ROWS[:at], row, *ROWS[at:]))

    def test_a_row_in_another_order(self):
        # Some rows of each kind may stand ahead of others of it; wherever else they stand they are wrong.
        for row, right in (
            ("rail 20 4", (0,)), ("crane 1 1 19", (1, 2, 3, 4)), ("stack e 19 1 1", (2, 3, 4, 5, 6, 7)),
            ("box q 1 b", (5, 6, 7, 8, 9, 10, 11)),
        ):
            for at in range(len(ROWS) + 1):
                if at not in right:
                    self.assert_bad(at, text_of(*ROWS[:at], row, *ROWS[at:]))
        # A stack ends the rows of cranes, so the next crane is wrong.
        for at in (2, 3):
            self.assert_bad(at + 1, text_of(*ROWS[:at], "stack e 19 1 1", *ROWS[at:]))
        # A box ends the rows of stacks, so the next stack is wrong.
        for at in (5, 6):
            self.assert_bad(at + 1, text_of(*ROWS[:at], "box z 4 b", *ROWS[at:7]))

    def test_too_few_and_too_many_words(self):
        for at, row in enumerate(ROWS):
            words = row.split(" ")
            for many in range(1, len(words)):
                self.assert_bad_row(at, " ".join(words[:many]))
            self.assert_bad_row(at, row + " 1")
            self.assert_bad_row(at, row + " a")

    def test_blanks(self):
        for at, row in enumerate(ROWS):
            for wrong in (row.replace(" ", "  ", 1), " " + row, row + " ", row[::-1].replace(" ", "  ", 1)[::-1],
                          row.replace(" ", "\t"), row.replace(" ", "\t", 1), row + "\t", "\t" + row):
                self.assert_bad_row(at, wrong)


class Numbers(Texts):
    WRONG = ["01", "00", "+1", "-1", "1.0", "1e3", "x", "-", "1_0", "1000000000001", "10000000000000", "9" * 5000]

    def assert_bounds(self, at, row, least, most, *beyond):
        """A row with a hole for a number, from least to most; what is beyond these is wrong, too."""
        for number in (least, most):
            self.assert_good(with_row(at, row.format(number)))
        for word in self.WRONG + list(beyond):
            self.assert_bad_row(at, row.format(word))

    def test_rails(self):
        self.assert_bounds(RAIL, "rail {} 4", 20, 10 ** 12, "0")
        self.assert_bounds(RAIL, "rail 20 {}", 1, 6, "0", "1000001")
        for row in ("rail 1 1000000", "rail 1000000000000 1"):
            self.assert_good(text_of(row, "crane 1 1 0", "stack a 0 1 1"))
        for row in ("rail 1 1000001", "rail 0 1", "rail 1 0", "rail 0 0", "rail 1000000000001 1"):
            self.assert_bad(0, text_of(row, "crane 1 1 0", "stack a 0 1 1"))

    def test_cranes(self):
        self.assert_bounds(CRANE, "crane {} 2 1", 1, 10 ** 9, "0", "1000000001")
        self.assert_bounds(CRANE, "crane 3 {} 1", 1, 1000, "0", "1001")
        self.assert_bounds(CRANE, "crane 3 2 {}", 0, 3)

    def test_stacks(self):
        self.assert_bounds(STACK, "stack b {} 3 50", 1, 19, "21", "1000000000000")
        self.assert_bounds(STACK, "stack b 8 {} 50", 1, 20, "0", "21")
        self.assert_bounds(STACK, "stack b 8 3 {}", 4, 10 ** 12, "0")
        self.assert_bounds(STACK + 1, "stack a {} 2 11", 0, 7, "21", "1000000000000")
        for name in ("", "B", "b1", "1", "abcdefghi", "b-", "{"):
            self.assert_bad_row(STACK, f"stack {name} 8 3 50")

    def test_boxes(self):
        at = len(ROWS) - 1
        self.assert_bounds(at, "box a {} d", 1, 10 ** 12, "0")
        for name in ("", "B", "b1", "1", "abcdefghi", "b-", "{"):
            self.assert_bad_row(at, f"box {name} 1 d")
            self.assert_bad_row(at, f"box q 1 {name}")


class Cranes(Texts):
    def six(self):
        return ["rail 20 4"] + [f"crane 1 1 {4 * crane}" for crane in range(6)]

    def test_a_seventh_crane(self):
        self.assert_good(text_of(*self.six(), "stack a 0 1 1"))
        for row in ("crane 1 1 24", "crane 1 1 20", "crane 1 1", "crane 0 0 0", "crane"):
            for rest in ([], ["stack a 0 1 1"], ["crane 1 1 28"], [""]):
                self.assert_bad(7, text_of(*self.six(), row, *rest))

    def test_no_places_for_all(self):
        cranes = ["crane 1 1 0", "crane 1 1 5"]
        for rest in ([], ["stack a 0 1 1"], ["stack a 0 1 1", "box x 1 a"], [""], ["no row"]):
            self.assert_bad(3, text_of("rail 4 5", *cranes, *rest))
            self.assert_bad(7, text_of("rail 19 4", *self.six()[1:], *rest))
        self.assert_good(text_of("rail 5 5", *cranes, "stack a 0 1 1"))

    def test_places_that_are_not_apart(self):
        for places in ([0, 3, 8], [0, 4, 7], [4, 0, 8], [0, 4, 21], [0, 4, 10 ** 12], [21, 25, 29], [0, 0, 0]):
            rows = ["rail 20 4"] + [f"crane 1 1 {place}" for place in places]
            for rest in ([], ["stack a 0 1 1"], ["stack a 99 1 1"], ["box x 1 a"], [""], ["no row"]):
                self.assert_bad(4, text_of(*rows, *rest))
        self.assert_bad(2, text_of("rail 20 4", "crane 1 1 21", "stack a 0 1 1"))
        self.assert_good(text_of("rail 20 4", "crane 1 1 20", "stack a 0 1 1"))

    def test_a_bad_row_of_cranes_comes_before_what_all_of_them_are(self):
        rows = ["rail 4 5", "crane 1 1 0", "crane 1 1 0", "crane 0 1 0"]
        self.assert_bad(3, text_of(*rows, "stack a 0 1 1"))
        self.assert_bad(1, text_of("rail 4 5", "crane 1 0 0", "crane 1 1 0", "stack a 0 1 1"))

    def test_no_crane(self):
        for rest in ([], ["stack a 0 1 1"], ["stack a 99 1 1"], ["box x 1 a"], [""], ["rail 20 4"], ["no row"]):
            self.assert_bad(1, text_of("rail 20 4", *rest))


class AllStacks(Texts):
    def test_no_stack(self):
        for rest in ([], ["box x 1 a"], [""], ["rail 20 4"], ["no row"]):
            self.assert_bad(4, text_of(*ROWS[:STACK], *rest))
            self.assert_bad(2, text_of("rail 20 4", "crane 1 1 0", *rest))

    def test_a_name_or_a_place_twice(self):
        for row in ("stack b 1 1 1", "stack a 1 1 1", "stack c 8 1 1", "stack c 0 1 1"):
            self.assert_bad_row(STACK + 2, row)

    def test_a_stack_beyond_the_rail(self):
        for at in (STACK, STACK + 1, STACK + 2):
            self.assert_bad_row(at, "stack c 21 1 1")
            self.assert_bad_row(at, "stack c 1000000000000 1 1")

    def test_a_stack_too_many(self):
        rows = ROWS[:STACK] + [f"stack {LETTERS[at]} {at} 1 1" for at in range(20)]
        self.assert_good(text_of(*rows))
        for row in ("stack u 20 1 1", "stack a 20 1 1", "stack u 20 1"):
            self.assert_bad(24, text_of(*rows, row))
            self.assert_bad(24, text_of(*rows, row, "box x 1 a"))


class Boxes(Texts):
    def test_what_stacks_refuse(self):
        for row in ("box w 1 c", "box x 1 b", "box z 1 b", "box w 1 A"):
            self.assert_bad_row(len(ROWS) - 1, row)
        # Stack a has its two boxes, stack b 46 left of its weight.
        self.assert_bad_row(len(ROWS) - 1, "box w 1 a")
        self.assert_bad_row(len(ROWS) - 1, "box w 47 b")
        self.assert_good(with_row(len(ROWS) - 1, "box w 46 b"))

    def test_a_box_ahead_of_the_rest(self):
        # All of the text ahead of the fault is good.
        self.assert_bad(BOX + 1, text_of(*ROWS[:BOX + 1], "box x 5 a", "no row"))

    def test_boxes_and_stacks_may_be_called_alike(self):
        self.assert_good(text_of(*ROWS[:BOX], "box b 1 a", "box a 1 b"))


if __name__ == "__main__":
    unittest.main()
