"""Many turns at once: how long all cranes go on alike, by so many places in each turn."""

from craneyard.moves import moved


class Outlook:
    """Compares courses (PLACE, STEP) as they are now and will be, and keeps for how many turns all of that holds."""

    def __init__(self, most):
        self.turns = most

    def greatest(self, courses):
        """The greatest course; of several that are level the one with the greatest step, which is ahead from now on."""
        place, step = max(courses)
        for other, faster in courses:
            if faster > step:
                self.turns = min(self.turns, (place - other) // (faster - step))
        return place, step

    def least(self, courses):
        """The least course, likewise."""
        place, step = self.greatest([(-place, -step) for place, step in courses])
        return -place, -step


def glide(rail, places, at_work, goals, ranks, most):
    """A tuple of a list of the cranes' steps in the next turn, and in how many turns on end, 1 to most, they go so."""
    behind = moved(rail, places, at_work, goals, ranks)
    steps = [new - old for old, new in zip(places, behind)]
    # From here on as moved goes, but with the courses on which the cranes are if these steps go on.
    outlook = Outlook(most - 1)
    courses = list(zip(places, steps))
    lows, highs = _bounds(rail, courses, at_work, outlook)
    for crane in ranks:
        wish = courses[crane] if goals[crane] is None else (goals[crane], 0)
        course = _nearest(lows, highs, rail.room, crane, wish, outlook)
        if course[1] != steps[crane]:
            return steps, 1
        lows[crane] = course
        highs[crane] = course
    return steps, outlook.turns + 1


def _bounds(rail, courses, at_work, outlook):
    """The courses of the least and the greatest place of each crane, as if it were alone on the rail."""
    lows = []
    highs = []
    for crane, (place, step) in enumerate(courses):
        speed = 0 if at_work[crane] else rail.cranes[crane][0]
        lows.append(outlook.greatest([(0, 0), (place - speed, step)]))
        highs.append(outlook.least([(rail.end, 0), (place + speed, step)]))
    return lows, highs


def _nearest(lows, highs, room, crane, wish, outlook):
    """The course that is as near to the wish as the courses of all cranes let it be."""
    pushed_up = [(lows[other][0] + (crane - other) * room, lows[other][1]) for other in range(crane + 1)]
    pushed_down = [
        (highs[other][0] - (other - crane) * room, highs[other][1]) for other in range(crane, len(highs))
    ]
    least = outlook.greatest(pushed_up)
    greatest = outlook.least(pushed_down)
    return outlook.least([outlook.greatest([wish, least]), greatest])
