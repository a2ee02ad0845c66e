"""How all cranes go in one turn: none passes another, and the room is kept."""


def span(rail, places, at_work, crane):
    """A tuple of the least and the greatest place to which this crane comes in a row that is let."""
    return _lows(rail, places, at_work)[crane], _highs(rail, places, at_work)[crane]


def moved(rail, places, at_work, goals, ranks):
    """The row that is let in which each crane, by its rank, is as near to its wish as may be."""
    wishes = [place if wish is None else wish for place, wish in zip(places, goals)]
    if wishes == places:
        # All may stay where they are, and want to.
        return wishes
    lows = _lows(rail, places, at_work)
    highs = _highs(rail, places, at_work)
    for crane in ranks:
        place = min(max(wishes[crane], lows[crane]), highs[crane])
        _settle(lows, highs, rail.room, crane, place)
    return lows


def _lows(rail, places, at_work):
    """The least place of each crane in all rows that are let."""
    lows = []
    # Each crane pushes those to its right; any place from here up to the greatest one has a row.
    pushed = 0
    for place, works, (speed, _) in zip(places, at_work, rail.cranes):
        least = max(pushed, place if works else place - speed)
        lows.append(least)
        pushed = least + rail.room
    return lows


def _highs(rail, places, at_work):
    """The greatest place of each crane in all rows that are let."""
    highs = []
    pushed = rail.end
    for crane in range(len(places) - 1, -1, -1):
        step = 0 if at_work[crane] else rail.cranes[crane][0]
        greatest = min(pushed, places[crane] + step)
        highs.append(greatest)
        pushed = greatest - rail.room
    highs.reverse()
    return highs


def _settle(lows, highs, room, crane, place):
    """This crane comes to this place, between its least and its greatest one: the others' ones keep the room."""
    lows[crane] = place
    highs[crane] = place
    # Whoever has the room to the crane beside has it to all cranes beyond.
    for other in range(crane + 1, len(lows)):
        if lows[other] >= lows[other - 1] + room:
            break
        lows[other] = lows[other - 1] + room
    for other in range(crane - 1, -1, -1):
        if highs[other] <= highs[other + 1] - room:
            break
        highs[other] = highs[other + 1] - room
