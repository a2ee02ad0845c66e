"""Journals: lines that are done to a yard, and that can be done again."""

from craneyard.errors import BadJournal, Buried, NoBox, NoCrane, NoReach, NoStack, Same, TooHeavy, TooHigh
from craneyard.texts import yard_of
from craneyard.turns import turn
from craneyard.words import number_of, words_of

REFUSALS = (
    "no line", "no crane", "no box", "no stack", "same", "buried", "too high", "too heavy", "no reach",
)


class Keeper:
    """A yard, and the journal of all that was done to it."""

    def __init__(self, text):
        self._yard = yard_of(text)
        self._journal = []

    def done(self, line):
        """Do a line; what came of it, or the refusal."""
        answer = self._answer(words_of(line))
        if answer not in REFUSALS:
            self._journal.append(line)
        return answer

    def lines(self):
        """A list of the lines that weren't refused."""
        return list(self._journal)

    def yard(self):
        """A yard alike, which goes on by itself."""
        return self._yard.copied()

    def _answer(self, words):
        if words == ["turn"]:
            return " ".join([str(place) for place in turn(self._yard)])
        if words[:1] == ["give"] and len(words) == 3:
            return _given(self._yard, words[1], words[2], None)
        if words[:1] == ["give"] and len(words) == 4:
            return _given(self._yard, words[1], words[2], _crane_of(words[3]))
        return "no line"


def redone(text, lines):
    """The keeper of this text that did these lines."""
    keeper = Keeper(text)
    if not isinstance(lines, list):
        raise BadJournal(0)
    for place, line in enumerate(lines):
        if keeper.done(line) in REFUSALS:
            raise BadJournal(place)
    return keeper


def _crane_of(word):
    number = number_of(word)
    # None would stand for any crane; this stands for none.
    return -1 if number is None else number


def _given(yard, box, stack, crane):
    try:
        number = yard.give(box, stack, crane)
        return f"job {number}"
    except NoCrane:
        return "no crane"
    except NoBox:
        return "no box"
    except NoStack:
        return "no stack"
    except Same:
        return "same"
    except Buried:
        return "buried"
    except TooHigh:
        return "too high"
    except TooHeavy:
        return "too heavy"
    except NoReach:
        return "no reach"
