"""A yard straight by the words of points [4] and [7] to [9], slow and without the program's help."""


class Model:
    """Each job goes from "waits" by "lifts", "held" and "lowers" to "done"; new places are searched among all rows."""

    def __init__(self, end, room, cranes, stacks, boxes, places):
        self.end = end
        self.room = room
        self.cranes = cranes
        self.place_of = {name: place for name, place, _, _ in stacks}
        self.piles = {name: [] for name in self.place_of}
        for box, weight, stack in boxes:
            self.piles[stack].append((box, weight))
        self.places = list(places)
        self.jobs = []
        self.turns = 0

    def give(self, box, origin, target, crane):
        self.jobs.append({
            "box": box, "from": origin, "to": target, "crane": crane, "state": "waits", "left": 0, "weight": None,
        })

    def undone(self):
        return [number for number, job in enumerate(self.jobs) if job["state"] != "done"]

    def jobs_of(self, crane):
        return [number for number in self.undone() if self.jobs[number]["crane"] == crane]

    def present(self, crane):
        return (self.jobs_of(crane) + [None])[0]

    def phase(self, crane):
        number = self.present(crane)
        if number is None:
            return "free", 0
        job = self.jobs[number]
        words = {"waits": "coming", "lifts": "lifting", "held": "bringing", "lowers": "lowering"}
        return words[job["state"]], job["left"]

    def holds(self, crane):
        number = self.present(crane)
        if number is None or self.jobs[number]["state"] in ("waits", "lifts"):
            return None
        return self.jobs[number]["box"]

    def goal(self, crane):
        word = self.phase(crane)[0]
        if word == "coming":
            return self.place_of[self.jobs[self.present(crane)]["from"]]
        if word == "bringing":
            return self.place_of[self.jobs[self.present(crane)]["to"]]
        return None

    def ranks(self):
        busy = sorted(self.present(crane) for crane in range(len(self.cranes)) if self.present(crane) is not None)
        first = [self.jobs[number]["crane"] for number in busy]
        return first + [crane for crane in range(len(self.cranes)) if crane not in first]

    def rows(self, at_work):
        """All rows of places to which the cranes can come, and that are apart."""
        rows = [[]]
        for crane, place in enumerate(self.places):
            speed = 0 if at_work[crane] else self.cranes[crane][0]
            own = [new for new in range(place - speed, place + speed + 1) if 0 <= new <= self.end]
            rows = [row + [new] for row in rows for new in own if not row or new - row[-1] >= self.room]
        return rows

    def go(self, at_work):
        rows = self.rows(at_work)
        for crane in self.ranks():
            wish = self.goal(crane)
            if wish is None:
                wish = self.places[crane]
            nearest = min(abs(row[crane] - wish) for row in rows)
            rows = [row for row in rows if abs(row[crane] - wish) == nearest]
        (self.places,) = rows

    def turn(self):
        self.turns += 1
        at_work = [self.phase(crane)[0] in ("lifting", "lowering") for crane in range(len(self.cranes))]
        working = [self.jobs[self.present(crane)] for crane in range(len(self.cranes)) if at_work[crane]]
        self.go(at_work)
        for job in working:
            job["left"] -= 1
            if job["left"] == 0:
                self.end_work(job)
        for crane in self.ranks():
            if self.goal(crane) == self.places[crane] and self.why(crane) is None:
                job = self.jobs[self.present(crane)]
                job["state"] = {"waits": "lifts", "held": "lowers"}[job["state"]]
                job["left"] = self.cranes[crane][1]

    def end_work(self, job):
        if job["state"] == "lifts":
            box, job["weight"] = self.piles[job["from"]].pop()
            assert box == job["box"], (box, job)
            job["state"] = "held"
        else:
            self.piles[job["to"]].append((job["box"], job["weight"]))
            job["state"] = "done"

    def why(self, crane):
        """Why a crane that stands at its goal may not begin."""
        number = self.present(crane)
        mine = self.jobs[number]
        for other in self.undone():
            job = self.jobs[other]
            common = {job["from"], job["to"]} & {mine["from"], mine["to"]}
            if mine["state"] == "waits" and other < number and common:
                return "job", other
        for other in range(len(self.cranes)):
            elder = self.present(other)
            needed = self.goal(other)
            if elder is None or elder >= number or needed is None:
                continue
            place = self.places[crane]
            if other < crane and needed > place - (crane - other) * self.room:
                return "way", other
            if other > crane and needed < place + (other - crane) * self.room:
                return "way", other
        return None

    def bound(self, number):
        """As [10] tells it, of a job that isn't done."""
        greatest = max(hoist for _, hoist in self.cranes)
        return sum(
            2 * self.end + 2 * greatest + 2 * self.cranes[self.jobs[other]["crane"]][1]
            for other in self.undone() if other <= number
        )
