"""A desk: it takes lines, and answers each with a text."""

from craneyard.errors import NoCrane, NoJob, NoStack
from craneyard.forecast import bound, when_done, why
from craneyard.journals import Keeper
from craneyard.words import is_among, number_of, words_of

FARTHEST = 200
LONGEST_RUN = 1000


def _crane(yard, word):
    crane = number_of(word)
    doing, turns = yard.phase(crane)
    place = yard.places()[crane]
    held = yard.holds(crane)
    box = "-" if held is None else held
    return f"{place} {doing} {turns} {box}"


def _jobs(yard, word):
    numbers = yard.jobs_of(number_of(word))
    return " ".join([str(number) for number in numbers]) if numbers else "none"


def _stack(yard, word):
    boxes = yard.stacks().boxes(word)
    return " ".join([box for box, _ in boxes]) if boxes else "empty"


def _when(yard, word):
    turns = when_done(yard, number_of(word), FARTHEST)
    return "never" if turns is None else str(turns)


def _bound(yard, word):
    return str(bound(yard, number_of(word)))


def _why(yard, word):
    reason = why(yard, number_of(word))
    return "goes" if reason is None else f"{reason[0]} {reason[1]}"


# Each question by its first word: what answers it is passed the yard and the other word.
QUESTIONS = {"crane": _crane, "jobs": _jobs, "stack": _stack, "when": _when, "bound": _bound, "why": _why}


class Desk:
    """A keeper, and the answers to what it is asked."""

    def __init__(self, text):
        self._keeper = Keeper(text)

    def say(self, line):
        """The answer to a line; a line of the journal is done."""
        words = words_of(line)
        if words == ["journal"]:
            lines = self._keeper.lines()
            return " / ".join(lines) if lines else "empty"
        if len(words) == 2 and words[0] == "run":
            return self._run(number_of(words[1]))
        if len(words) == 2 and words[0] in QUESTIONS:
            return _answered(words[0], self._keeper.yard(), words[1])
        return self._keeper.done(line)

    def _run(self, many):
        if not is_among(many, 0, LONGEST_RUN):
            return "bad number"
        for _ in range(many):
            self._keeper.done("turn")
        return "done"


def _answered(first, yard, word):
    question = QUESTIONS[first]
    try:
        return question(yard, word)
    except NoCrane:
        return "no crane"
    except NoJob:
        return "no job"
    except NoStack:
        return "no stack"
