"""Point [13]: craneyard/journals.py."""

import unittest

from craneyard.journals import Keeper, redone
from craneyard.texts import yard_of
from craneyard.turns import gone_on, turn
from craneyard.yards import Yard
from chance import Chance
from journal_lines import BAD_TEXTS, NO_LINES, REFUSED, TEXT
from things import Case, all_of_yard, no_texts


def keeper_of_many():
    keeper = Keeper(TEXT)
    for line in ("give y b", "turn", "turn", "give z f", "give y e 1"):
        keeper.done(line)
    return keeper


class Made(Case):
    def test_as_the_text_writes_it(self):
        keeper = Keeper(TEXT)
        self.assertEqual(all_of_yard(keeper.yard()), all_of_yard(yard_of(TEXT)))
        self.assertEqual(keeper.lines(), [])
        self.assertIs(keeper.lines().__class__, list)

    def test_bad_texts(self):
        for text, line in BAD_TEXTS:
            self.assert_bad_text(line, Keeper, text)

    def test_of_anything(self):
        for thing in no_texts() + [0, 1]:
            with self.subTest(repr(thing)):
                self.assert_bad_text(0, Keeper, thing)


class Done(Case):
    def test_jobs(self):
        keeper = Keeper(TEXT)
        told = [keeper.done(line) for line in ("give y b", "give x f", "give z e 1")]
        self.assertEqual(told, ["job 0", "job 1", "buried"])
        self.assertEqual(keeper.done("give y e 1"), "job 2")
        self.assertEqual(keeper.done("give z a 0"), "job 3")
        yard = keeper.yard()
        self.assertEqual([yard.job(number) for number in range(4)],
                         [("y", "a", "b"), ("x", "a", "f"), ("y", "b", "e"), ("z", "b", "a")])
        self.assertEqual([yard.crane_of(number) for number in range(4)], [0, 0, 1, 0])

    def test_turns(self):
        keeper = Keeper(TEXT)
        yard = yard_of(TEXT)
        self.assertEqual(keeper.done("turn"), "1 15")
        turn(yard)
        keeper.done("give y b 0")
        yard.give("y", "b", 0)
        for _ in range(20):
            self.assertEqual(keeper.done("turn"), " ".join(map(str, turn(yard))))
        self.assertEqual(all_of_yard(keeper.yard()), all_of_yard(yard))

    def test_the_place_of_one_crane(self):
        keeper = Keeper("rail 9 1\ncrane 4 1 0\nstack a 6 2 9\nstack b 0 2 9\nbox x 1 a")
        self.assertEqual([keeper.done(line) for line in ("turn", "give x b", "turn", "turn", "turn")],
                         ["0", "job 0", "4", "6", "6"])

    def test_jobs_above_nine(self):
        keeper = Keeper(TEXT)
        for number in range(12):
            self.assertEqual(keeper.done("give y " + "ba"[number % 2]), f"job {number}")

    def test_without_a_crane_any_may_have_it(self):
        keeper = Keeper(TEXT)
        self.assertEqual(keeper.done("give z e"), "job 0")
        self.assertEqual(keeper.done("give y f"), "job 1")
        self.assertEqual([keeper.yard().crane_of(number) for number in (0, 1)], [1, 0])

    def assert_not_done(self, keeper, line, answer):
        before = all_of_yard(keeper.yard()), keeper.lines()
        self.assertEqual(keeper.done(line), answer)
        self.assertEqual((all_of_yard(keeper.yard()), keeper.lines()), before)

    def test_no_lines(self):
        for keeper in (Keeper(TEXT), keeper_of_many()):
            for line in NO_LINES:
                with self.subTest(line):
                    self.assert_not_done(keeper, line, "no line")

    def test_lines_of_anything(self):
        for keeper in (Keeper(TEXT), keeper_of_many()):
            for thing in no_texts() + [0, 1, -1, ["turn"], b"turn", ("give", "y", "b"), ["give", "y", "b"]]:
                with self.subTest(repr(thing)):
                    self.assert_not_done(keeper, thing, "no line")

    def test_refusals(self):
        keeper = Keeper(TEXT)
        for line, answer in REFUSED:
            with self.subTest(line):
                self.assert_not_done(keeper, line, answer)
        self.assertEqual(keeper.lines(), [])

    def test_too_high(self):
        keeper = Keeper(TEXT)
        self.assertEqual(keeper.done("give z c"), "job 0")
        # It is too heavy as well.
        self.assert_not_done(keeper, "give y c", "too high")
        self.assert_not_done(keeper, "give y c 0", "too high")

    def test_refusals_go_by_what_is_planned(self):
        keeper = Keeper(TEXT)
        keeper.done("give y b")
        for line, answer in (("give y b", "same"), ("give z a", "buried"), ("give x a", "same")):
            self.assert_not_done(keeper, line, answer)
        self.assertEqual(keeper.done("give y a"), "job 1")


class Journal(Case):
    def test_lines_that_were_not_refused(self):
        keeper = Keeper(TEXT)
        tried = ["give y b", "turn", "give x b 9", "give x b 0", "no line", "turn", "give w b", "turn ", "give y e 1"]
        for line in tried:
            keeper.done(line)
        self.assertEqual(keeper.lines(), ["give y b", "turn", "give x b 0", "turn"])

    def test_the_list_is_the_askers(self):
        keeper = keeper_of_many()
        told = keeper.lines()
        told.append("turn")
        told[0] = "give"
        kept = keeper.lines()
        self.assertEqual(kept, ["give y b", "turn", "turn", "give y e 1"])
        keeper.done("turn")
        self.assertEqual(kept, ["give y b", "turn", "turn", "give y e 1"])
        self.assertEqual(len(keeper.lines()), 5)

    def test_the_yard_goes_on_by_itself(self):
        keeper = keeper_of_many()
        told = keeper.yard()
        self.assertIs(told.__class__, Yard)
        before = all_of_yard(told)
        gone_on(told, 30)
        told.give("z", "a")
        self.assertEqual(all_of_yard(keeper.yard()), before)
        kept = keeper.yard()
        for _ in range(9):
            keeper.done("turn")
        keeper.done("give x f")
        self.assertEqual(all_of_yard(kept), before)
        self.assertEqual(keeper.yard().many_turns(), 11)


class Redone(Case):
    def test_an_empty_journal(self):
        keeper = redone(TEXT, [])
        self.assertIs(keeper.__class__, Keeper)
        self.assertEqual(keeper.lines(), [])
        self.assertEqual(all_of_yard(keeper.yard()), all_of_yard(yard_of(TEXT)))

    def test_a_journal_and_all_that_is_cut_off_it(self):
        lines = ["give y b", "turn", "turn", "give x f", "turn", "give y e 1", "turn", "turn"]
        for many in range(len(lines) + 1):
            keeper = Keeper(TEXT)
            for line in lines[:many]:
                keeper.done(line)
            again = redone(TEXT, lines[:many])
            self.assertEqual(again.lines(), lines[:many])
            self.assertEqual(all_of_yard(again.yard()), all_of_yard(keeper.yard()))

    def test_it_stands_alike_and_goes_on_alike(self):
        for seed in range(40):
            chance = Chance(seed, most_cranes=6, longest=30)
            keeper = Keeper(chance.text())
            for _ in range(60):
                keeper.done(a_line(chance))
            again = redone(chance.text(), keeper.lines())
            self.assertEqual(again.lines(), keeper.lines())
            for _ in range(40):
                self.assertEqual(all_of_yard(again.yard()), all_of_yard(keeper.yard()))
                line = a_line(chance)
                self.assertEqual(again.done(line), keeper.done(line))
            self.assertEqual(again.lines(), keeper.lines())

    def test_bad_texts_come_first(self):
        for text, line in BAD_TEXTS:
            for lines in ([], ["turn"], ["no line"], None, 3):
                self.assert_bad_text(line, redone, text, lines)
        for thing in no_texts() + [0, 1]:
            self.assert_bad_text(0, redone, thing, thing)

    def test_no_list(self):
        for thing in no_texts() + ["", "turn", 0, 1, ("turn",), (), {"turn": "turn"}, range(0)]:
            if thing.__class__ is not list:
                with self.subTest(repr(thing)):
                    self.assert_bad_journal(0, redone, TEXT, thing)

    def test_lines_of_anything(self):
        for thing in no_texts() + [0, 1]:
            for ahead in ([], ["turn"], ["give y b", "turn", "turn"]):
                with self.subTest(repr(thing), ahead=ahead):
                    self.assert_bad_journal(len(ahead), redone, TEXT, ahead + [thing])
                    self.assert_bad_journal(len(ahead), redone, TEXT, ahead + [thing, "turn", "no line"])

    def test_the_first_line_that_is_not_done(self):
        for line in NO_LINES + [line for line, _ in REFUSED]:
            for ahead in ([], ["turn"], ["turn"] * 5):
                with self.subTest(line, ahead=ahead):
                    self.assert_bad_journal(len(ahead), redone, TEXT, ahead + [line])
                    self.assert_bad_journal(len(ahead), redone, TEXT, ahead + [line, line])
        self.assert_bad_journal(1, redone, TEXT, ["give y b", "give y b", "turn"])
        self.assert_bad_journal(2, redone, TEXT, ["give z c", "turn", "give y c", "give y b"])

    def test_the_list_is_not_changed_and_may_be_changed_later(self):
        lines = ["give y b", "turn", "turn"]
        keeper = redone(TEXT, lines)
        self.assertEqual(lines, ["give y b", "turn", "turn"])
        keeper.done("turn")
        self.assertEqual(lines, ["give y b", "turn", "turn"])
        lines.clear()
        self.assertEqual(keeper.lines(), ["give y b", "turn", "turn", "turn"])
        wrong = ["turn", "no line"]
        self.assert_bad_journal(1, redone, TEXT, wrong)
        self.assertEqual(wrong, ["turn", "no line"])


def a_line(chance):
    """A line of a journal by chance; some are refused."""
    if chance.random.random() < 0.6 or not chance.boxes:
        return "turn"
    line = f"give {chance.random.choice(chance.boxes)[0]} {chance.random.choice(chance.rows)[0]}"
    return chance.random.choice([line, f"{line} {chance.random.randrange(len(chance.cranes) + 1)}"])


if __name__ == "__main__":
    unittest.main()
