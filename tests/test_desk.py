"""Point [14]: craneyard/desk.py."""

import unittest

from craneyard.desk import Desk
from craneyard.journals import Keeper, redone
from craneyard.turns import turn
from journal_lines import BAD_TEXTS, NO_LINES, REFUSED, TEXT
from things import Case, no_texts

# Two cranes far away from one another; from a to d it takes long.
LONG = "\n".join([
    "rail 300 4", "crane 1 2 0", "crane 5 1 300", "stack a 50 3 50", "stack b 60 3 50", "stack c 300 3 50",
    "stack d 150 3 50", "box x 5 a", "box y 6 c",
])

NO_QUESTIONS = [
    "", " ", "crane", "jobs", "stack", "when", "bound", "why", "run", "crane 0 1", "jobs 0 0", "stack a b", "when 0 0",
    "bound 0 0", "why 0 0", "run 1 1", "journal 0", "journal journal", "crane  0", " crane 0", "crane 0 ", "jobs  0",
    "stack  a", "stack a ", "when  0", "when 0 ", "bound  0", "why  0", "run  1", "run 1 ", " journal", "journal ",
    "crane 0\n", "\ncrane 0", "stack a\n", "journal\n", "run 1\n", "when 0\n", "crane\t0", "Crane 0", "cranes 0",
    "JOURNAL", "lines", "yard", "done", "say", "places", "help", "-", "0", "none", "crane\n0", "run\n1", "jobs 0\nturn",
]
# What NO_LINES has that a desk takes.
QUESTIONS = ["crane 0", "jobs 0", "stack a", "when 0", "bound 0", "why 0", "run 1", "journal"]
NO_NUMBERS = ["x", "-1", "00", "01", "+1", "1.0", "None", "True", "1000000000001", "9" * 5000, "-", "a\t"]


def a_desk(*lines, text=TEXT):
    desk = Desk(text)
    for line in lines:
        desk.say(line)
    return desk


class DeskCase(Case):
    def assert_said(self, desk, *rows):
        for line, answer in rows:
            with self.subTest(line):
                told = desk.say(line)
                self.assertEqual((told, told.__class__), (answer, str))

    def all_said(self, desk):
        """All that a desk of TEXT tells; nothing of it changes anything."""
        lines = ["crane 0", "crane 1", "jobs 0", "jobs 1", "journal", *["stack " + name for name in "abcdef"]]
        return [desk.say(line) for line in lines + [f"{word} {job}" for word in ("when", "bound") for job in range(4)]]

    def assert_refused_line(self, desk, line, answer):
        before = self.all_said(desk)
        self.assert_said(desk, (line, answer))
        self.assertEqual(self.all_said(desk), before)


class Made(DeskCase):
    def test_bad_texts(self):
        for text, line in BAD_TEXTS:
            self.assert_bad_text(line, Desk, text)

    def test_of_anything(self):
        for thing in no_texts() + [0, 1]:
            with self.subTest(repr(thing)):
                self.assert_bad_text(0, Desk, thing)

    def test_as_the_text_writes_it(self):
        self.assert_said(
            Desk(TEXT), ("crane 0", "1 free 0 -"), ("crane 1", "15 free 0 -"), ("jobs 0", "none"), ("jobs 1", "none"),
            ("stack a", "x y"), ("stack b", "z"), ("stack c", "empty"), ("journal", "empty"), ("when 0", "no job"),
        )


class Lines(DeskCase):
    def test_lines_of_the_journal(self):
        desk = Desk(TEXT)
        self.assert_said(
            desk, ("turn", "1 15"), ("give y b", "job 0"), ("give y d", "too heavy"), ("give z f", "buried"),
            ("turn", "4 15"), ("give y e 1", "job 1"),
            ("journal", "turn / give y b / turn / give y e 1"),
        )

    def test_refused_lines_of_the_journal(self):
        desk = Desk(TEXT)
        for line, answer in REFUSED:
            self.assert_refused_line(desk, line, answer)
        self.assert_said(desk, ("journal", "empty"))

    def test_no_lines(self):
        for desk in (Desk(TEXT), a_desk("give y b", "turn", "turn", "give y e 1")):
            for line in NO_QUESTIONS + [line for line in NO_LINES if line not in QUESTIONS]:
                self.assert_refused_line(desk, line, "no line")

    def test_lines_of_anything(self):
        for desk in (Desk(TEXT), a_desk("give y b", "turn", "turn", "give y e 1")):
            for thing in no_texts() + [0, 1, ["journal"], ["crane", "0"], ("turn",), b"journal", b"crane 0"]:
                self.assert_refused_line(desk, thing, "no line")

    def test_as_a_keeper_does(self):
        keeper, desk = Keeper(TEXT), Desk(TEXT)
        for line in ["give y b", "turn", "give z a 1", "turn", "give x d", "give y e", "turn", "no", "turn"] * 4:
            self.assertEqual(desk.say(line), keeper.done(line))
        self.assertEqual(desk.say("journal"), " / ".join(keeper.lines()))


class Cranes(DeskCase):
    def test_all_words_of_a_crane(self):
        desk = Desk(TEXT)
        said = [desk.say("crane 0")]
        for line in ["give y b 0"] + ["turn"] * 6:
            desk.say(line)
            said.append(desk.say("crane 0"))
        self.assertEqual(said, [
            "1 free 0 -", "1 coming 0 -", "4 lifting 2 -", "4 lifting 1 -", "4 bringing 0 y", "7 bringing 0 y",
            "8 lowering 2 y", "8 lowering 1 y",
        ])
        self.assert_said(desk, ("stack a", "x"), ("stack b", "z"), ("turn", "8 15"), ("crane 0", "8 free 0 -"),
                         ("stack b", "z y"))

    def test_jobs(self):
        desk = a_desk("give y b 0", "give y e 1", "give z f 0")
        self.assert_said(desk, ("jobs 0", "0 2"), ("jobs 1", "1"))
        desk.say("run 200")
        self.assert_said(desk, ("jobs 0", "none"), ("jobs 1", "none"), ("stack f", "z"), ("stack e", "y"),
                         ("stack b", "empty"))

    def test_no_crane(self):
        desk = a_desk("give y b 0", "turn")
        for word in ("crane", "jobs", "why"):
            for number in ["2", "6", "1000000000000"] + NO_NUMBERS:
                self.assert_refused_line(desk, f"{word} {number}", "no crane")


class Stacks(DeskCase):
    def test_boxes_as_they_are(self):
        desk = Desk(TEXT)
        self.assert_said(desk, ("stack a", "x y"), ("stack f", "empty"), ("give y f", "job 0"), ("stack a", "x y"))
        while desk.say("crane 0").split()[1] != "bringing":
            self.assert_said(desk, ("stack a", "x y"))
            desk.say("turn")
        self.assert_said(desk, ("stack a", "x"), ("stack f", "empty"), ("run 50", "done"), ("stack f", "y"))

    def test_no_stack(self):
        desk = a_desk("give y b 0", "turn")
        for name in ("g", "x", "A", "0", "1", "ab", "-", "a\t", "abcdefghi"):
            self.assert_refused_line(desk, f"stack {name}", "no stack")


class Jobs(DeskCase):
    def test_when(self):
        desk = a_desk("give y b 0", "give y e 1")
        first, second = int(desk.say("when 0")), int(desk.say("when 1"))
        # One turn to a, two of lifting, two to b, two of lowering. Then crane 1 stands at 12, comes to 9 and to 8,
        # as crane 0 gives way, and it takes one turn of lifting, three to e, and one of lowering.
        self.assertEqual((first, second), (7, 14))
        for gone in range(20):
            self.assert_said(desk, ("when 0", str(max(first - gone, 0))), ("when 1", str(max(second - gone, 0))))
            desk.say("turn")

    def test_within_two_hundred_turns_and_later(self):
        # 50 to a, 2 of lifting, 100 to d, 2 of lowering, one of them also the last one to come: 154.
        desk = a_desk("give x d 0", "give x a 0", text=LONG)
        self.assert_said(desk, ("when 0", "154"), ("when 1", "never"))
        # Of the second job 2, 100 and 2 turns more: 258 in all, so within 200 from turn 58 on.
        desk.say("run 57")
        self.assert_said(desk, ("when 1", "never"), ("turn", "56 300"), ("when 1", "200"), ("turn", "57 300"),
                         ("when 1", "199"))
        self.assertEqual(desk.say("run 199"), "done")
        self.assert_said(desk, ("when 0", "0"), ("when 1", "0"), ("jobs 0", "none"))

    def test_bound(self):
        # Of each job twice 300, twice 2, and twice 2 with crane 0, twice 1 with crane 1; the second line is refused.
        desk = a_desk("give x d 0", "give y c", "give x a 1", "give y d 1", text=LONG)
        self.assert_said(desk, ("bound 0", "608"), ("bound 1", "1214"), ("bound 2", "1820"), ("bound 3", "no job"))
        desk.say("run 160")
        self.assert_said(desk, ("bound 0", "0"), ("bound 1", "606"), ("bound 2", "1212"), ("bound 3", "no job"))

    def test_no_job(self):
        desk = a_desk("give y b 0", "give y e 1", "turn")
        for word in ("when", "bound"):
            for number in ["2", "6", "1000000000000"] + NO_NUMBERS:
                self.assert_refused_line(desk, f"{word} {number}", "no job")


class Why(DeskCase):
    def test_job_and_goes(self):
        desk = a_desk("give y b 0", "give y e 1")
        self.assert_said(desk, ("why 0", "goes"), ("why 1", "goes"))
        desk.say("run 3")
        # Crane 1 is as near to b as crane 0 lets it be.
        self.assert_said(desk, ("crane 1", "8 coming 0 -"), ("why 1", "job 0"), ("why 0", "goes"))
        desk.say("run 60")
        self.assert_said(desk, ("why 0", "goes"), ("why 1", "goes"))

    def test_way(self):
        text = "\n".join([
            "rail 40 3", "crane 1 1 0", "crane 9 1 20", "stack a 18 1 1", "stack b 0 1 1", "stack c 20 1 1",
            "stack d 39 1 1", "box x 1 a", "box y 1 c",
        ])
        desk = a_desk("give x b 0", "give y d 1", text=text)
        self.assert_said(desk, ("why 1", "way 0"), ("why 0", "goes"), ("turn", "1 20"), ("why 1", "way 0"),
                         ("crane 1", "20 coming 0 -"), ("run 17", "done"), ("crane 1", "21 coming 0 -"),
                         ("why 1", "goes"))


class Runs(DeskCase):
    def test_each_turn_is_a_line(self):
        desk = Desk(TEXT)
        self.assert_said(desk, ("run 0", "done"), ("journal", "empty"), ("run 1", "done"), ("journal", "turn"),
                         ("give y b", "job 0"), ("run 3", "done"), ("journal", "turn / give y b / turn / turn / turn"))

    def test_as_so_many_turns(self):
        for many in (0, 1, 7, 50, 1000):
            desk = a_desk("give y b", "give z a", "give x f", f"run {many}")
            other = a_desk("give y b", "give z a", "give x f", *["turn"] * many)
            self.assertEqual(self.all_said(desk), self.all_said(other))
            self.assertEqual(desk.say("journal").count("turn"), many)

    def test_bad_numbers(self):
        desk = a_desk("give y b 0", "turn")
        for word in ["1001", "1000000000000"] + NO_NUMBERS:
            self.assert_refused_line(desk, f"run {word}", "bad number")

    def test_a_journal_that_is_done_again(self):
        desk = a_desk("give y b", "run 5", "give w b", "give z f", "give y e 1", "turn", "run 2")
        keeper = redone(TEXT, desk.say("journal").split(" / "))
        again = keeper.yard()
        for _ in range(40):
            self.assertEqual(desk.say("turn"), " ".join(map(str, turn(again))))
        self.assertEqual(desk.say("stack e"), " ".join(box for box, _ in again.stacks().boxes("e")))


class Asked(DeskCase):
    def test_what_is_asked_changes_nothing(self):
        desk = a_desk("give y b", "turn", "turn", "give y e 1")
        before = self.all_said(desk)
        for line in ["crane 0", "jobs 1", "stack a", "when 1", "bound 1", "why 1", "journal", "run 0"] * 3:
            desk.say(line)
            self.assertEqual(self.all_said(desk), before)

    def test_two_desks_go_by_themselves(self):
        one, other = Desk(TEXT), Desk(TEXT)
        one.say("give y b")
        one.say("run 50")
        self.assertEqual(self.all_said(other), self.all_said(Desk(TEXT)))


if __name__ == "__main__":
    unittest.main()
