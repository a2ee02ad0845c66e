"""How all cranes go in one turn: none passes another, and the room is kept."""


def span(rail, places, at_work, crane):
    """A tuple of the least and the greatest place to which this crane comes in a row that is let."""
    lows, highs = _bounds(rail, places, at_work)
    return _span_within(lows, highs, rail.room, crane)


def moved(rail, places, at_work, goals, ranks):
    """The row that is let in which each crane, by its rank, is as near to its wish as may be."""
    lows, highs = _bounds(rail, places, at_work)
    for crane in ranks:
        least, greatest = _span_within(lows, highs, rail.room, crane)
        wish = places[crane] if goals[crane] is None else goals[crane]
        place = min(max(wish, least), greatest)
        # Whoever comes later in the ranks finds this crane's place settled.
        lows[crane] = place
        highs[crane] = place
    return lows


def _bounds(rail, places, at_work):
    """The least and the greatest place of each crane, as if it were alone on the rail."""
    lows = []
    highs = []
    for crane in range(len(places)):
        step = 0 if at_work[crane] else rail.cranes[crane][0]
        lows.append(max(0, places[crane] - step))
        highs.append(min(rail.end, places[crane] + step))
    return lows, highs


def _span_within(lows, highs, room, crane):
    """The least and the greatest place of this crane in all rows within the bounds that keep the room."""
    # Each crane to the left pushes the least place up by the rooms between, each one to the right
    # the greatest one down. Any place between the two has a row: the others follow its push.
    least = max([lows[other] + (crane - other) * room for other in range(crane + 1)])
    greatest = min([highs[other] - (other - crane) * room for other in range(crane, len(highs))])
    return least, greatest
