"""The whole program: from a text to the answers of a desk, against the model and the promises of [4] and [8] to [14]."""

import unittest

from craneyard.desk import Desk
from craneyard.forecast import bound, places_in, when_done
from craneyard.journals import redone
from craneyard.texts import yard_of
from craneyard.turns import gone_on
from chance import Chance
from things import all_of_yard


def said_of_cranes(desk, cranes):
    return [desk.say(f"crane {crane}") for crane in range(cranes)]


def told_of_cranes(thing, places, cranes):
    """What a desk should say of the cranes of a yard or of a model."""
    told = []
    for crane in range(cranes):
        word, turns = thing.phase(crane)
        told.append(f"{places[crane]} {word} {turns} {thing.holds(crane) or '-'}")
    return told


def lines_of(desk):
    journal = desk.say("journal")
    return [] if journal == "empty" else journal.split(" / ")


class AsModelled(unittest.TestCase):
    """Desk and model are given the same jobs and go on turn by turn."""

    def give(self, chance, desk):
        number = chance.give()
        if number is None:
            return
        box, _, target = chance.yard.job(number)
        line = f"give {box} {target} {chance.yard.crane_of(number)}"
        self.assertEqual(desk.say(line), f"job {number}")

    def compare(self, chance, desk):
        model = chance.model
        cranes = len(chance.cranes)
        self.assertEqual(said_of_cranes(desk, cranes), told_of_cranes(model, model.places, cranes))
        for crane in range(cranes):
            jobs = " ".join(map(str, model.jobs_of(crane)))
            self.assertEqual(desk.say(f"jobs {crane}"), jobs or "none")
            self.assertEqual(desk.say(f"why {crane}"), self.reason(model, crane))
        for name, pile in model.piles.items():
            self.assertEqual(desk.say(f"stack {name}"), " ".join(box for box, _ in pile) or "empty")
        for number, job in enumerate(model.jobs):
            wanted = 0 if job["state"] == "done" else model.bound(number)
            self.assertEqual(desk.say(f"bound {number}"), str(wanted))

    def reason(self, model, crane):
        goal = model.goal(crane)
        reason = model.why(crane) if goal is not None and goal == model.places[crane] else None
        return "goes" if reason is None else f"{reason[0]} {reason[1]}"

    def test_from_a_text_to_the_answers(self):
        for seed in range(120):
            chance = Chance(seed)
            desk = Desk(chance.text())
            at = 0
            while at < 20 or chance.model.undone():
                for _ in range(chance.random.choice((0, 0, 1, 3)) if at < 20 else 0):
                    self.give(chance, desk)
                with self.subTest(seed=seed, at=at):
                    self.compare(chance, desk)
                    chance.model.turn()
                    self.assertEqual(desk.say("turn"), " ".join(map(str, chance.model.places)))
                at += 1
            self.compare(chance, desk)


class Ahead(unittest.TestCase):
    """What is told ahead is what comes, if nothing is given."""

    def told(self, yard, desk):
        jobs = range(yard.many_jobs())
        whens = [when_done(yard, number, 10 ** 6) for number in jobs]
        for number in jobs:
            within = str(whens[number]) if whens[number] <= 200 else "never"
            self.assertEqual(desk.say(f"when {number}"), within)
            self.assertLessEqual(whens[number], bound(yard, number))
        return whens, [places_in(yard, many) for many in range(30)]

    def test_all_that_is_told(self):
        for seed in range(60):
            chance = Chance(seed, most_cranes=6, longest=seed % 90 + 6, greatest_hoist=9)
            desk = Desk(chance.text())
            for line in lines_by_chance(chance, 30):
                desk.say(line)
            yard = redone(chance.text(), lines_of(desk)).yard()
            whens, places = self.told(yard, desk)
            for gone in range(30):
                self.assertEqual(desk.say("crane 0").split(" ")[0], str(places[gone][0]))
                for number, turns in enumerate(whens):
                    self.assertEqual(when_done(yard, number, 10 ** 6), max(turns - gone, 0))
                    self.assertEqual(yard.is_done(number), turns <= gone)
                self.assertEqual(yard.places(), places[gone])
                desk.say("turn")
                gone_on(yard, 1)


def lines_by_chance(chance, many):
    """Lines of a journal, some of which are refused."""
    lines = []
    for _ in range(many):
        line = "turn"
        if chance.boxes and chance.random.random() < 0.4:
            line = f"give {chance.random.choice(chance.boxes)[0]} {chance.random.choice(chance.rows)[0]}"
            if chance.random.random() < 0.5:
                line += f" {chance.random.randrange(len(chance.cranes))}"
        lines.append(line)
    return lines


class Promised(unittest.TestCase):
    """What holds of every yard, whatever is given to it, by what a desk says alone."""

    def check_turn(self, desk, rail, before):
        """Cranes go by their speeds, stay at work, and keep the room."""
        behind = [int(word) for word in desk.say("turn").split(" ")]
        self.assertTrue(rail.are_apart(behind))
        for crane, (speed, _) in enumerate(rail.cranes):
            place, word, _, _ = before[crane].split(" ")
            reach = 0 if word in ("lifting", "lowering") else speed
            self.assertLessEqual(abs(behind[crane] - int(place)), reach)

    def test_all_jobs_one_behind_the_other_each_within_its_bound(self):
        for seed in range(100):
            chance = Chance(seed, most_cranes=6, longest=seed % 40 + 6, greatest_speed=4, greatest_hoist=9)
            text = chance.text()
            desk = Desk(text)
            piles = {name: list(pile) for name, pile in chance.model.piles.items()}
            cranes = len(chance.cranes)
            lines = lines_by_chance(chance, 60)
            last = {}
            turns = 0
            while lines or last:
                line = lines.pop(0) if lines else "turn"
                if line == "turn":
                    self.check_turn(desk, chance.rail, said_of_cranes(desk, cranes))
                    turns += 1
                    last = {job: most for job, most in last.items() if desk.say(f"bound {job}") != "0"}
                    self.assertTrue(all(turns < most for most in last.values()), (seed, last))
                    continue
                answer = desk.say(line)
                if answer.startswith("job "):
                    _, box, target = line.split(" ")[:3]
                    self.bring(piles, box, target)
                    job = answer.split(" ")[1]
                    last[job] = turns + int(desk.say(f"bound {job}"))
            for name, pile in piles.items():
                self.assertEqual(desk.say(f"stack {name}"), " ".join(box for box, _ in pile) or "empty")
            self.again(text, desk)

    def bring(self, piles, box, target):
        """Just do the job: the box is the uppermost one of some stack."""
        (origin,) = [name for name, pile in piles.items() if pile and pile[-1][0] == box]
        self.assertNotEqual(origin, target)
        piles[target].append(piles[origin].pop())

    def again(self, text, desk):
        """The journal, done again, brings up a yard that stands alike."""
        yard = redone(text, lines_of(desk)).yard()
        cranes = len(yard.rail.cranes)
        self.assertEqual(said_of_cranes(desk, cranes), told_of_cranes(yard, yard.places(), cranes))
        self.assertEqual(yard.many_turns(), lines_of(desk).count("turn"))


class Apart(unittest.TestCase):
    """Yards, keepers and desks of one text do not change one another."""

    def test_many_of_one_text(self):
        for seed in range(20):
            chance = Chance(seed)
            text = chance.text()
            desk, yard = Desk(text), yard_of(text)
            made = all_of_yard(yard)
            for line in lines_by_chance(chance, 40):
                desk.say(line)
            keeper = redone(text, lines_of(desk))
            before = all_of_yard(keeper.yard())
            gone_on(keeper.yard(), 20)
            desk.say("run 20")
            self.assertEqual(all_of_yard(keeper.yard()), before)
            self.assertEqual(all_of_yard(yard), made)
            self.assertEqual(all_of_yard(yard_of(text)), made)


if __name__ == "__main__":
    unittest.main()
