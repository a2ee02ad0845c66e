"""A yard's text, and lines that are none or are refused there: for keepers and for desks."""

# Cranes reach 0 to 16 and 4 to 20. Stack a has x below y, b has z; c takes one light box, d light ones.
TEXT = "\n".join([
    "rail 20 4", "crane 3 2 1", "crane 5 1 15",
    "stack a 4 3 50", "stack b 8 3 50", "stack c 12 1 5", "stack d 16 3 4", "stack e 20 3 50", "stack f 0 3 50",
    "box x 5 a", "box y 6 a", "box z 4 b",
])

BAD_TEXTS = [("", 0), ("rail 20 4", 1), (TEXT + "\n", 12), (TEXT + "\nbox x 1 b", 12), (None, 0), (TEXT.encode(), 0)]

NO_LINES = [
    "", " ", "turn ", " turn", "turn turn", "turn 1", "turn\n", "\nturn", "turn\nturn", "turn\t", "Turn", "turns",
    "give", "give y", "give y b 0 0", "give  y b", "give y  b", " give y b", "give y b ", "give y b  0", "give y b 0 ",
    "give y b\n", "give y b 0\n", "give\ty\tb", "give y\tb", "Give y b", "gives y b", "give y b turn turn",
    "take y", "crane 0", "jobs 0", "stack a", "when 0", "bound 0", "why 0", "run 1", "journal", "no line", "y b", "0",
]

# Lines of jobs that are refused where nothing was given yet, and the answers.
REFUSED = [
    ("give y b 2", "no crane"), ("give y b x", "no crane"), ("give y b 00", "no crane"), ("give y b 01", "no crane"),
    ("give y b -1", "no crane"), ("give y b None", "no crane"), ("give y b 1000000000001", "no crane"),
    ("give y b -", "no crane"), ("give y b 0\t", "no crane"),
    ("give w b", "no box"), ("give a b", "no box"), ("give Y b", "no box"), ("give 0 b", "no box"),
    ("give y\t b", "no box"), ("give w b 1", "no box"),
    ("give y g", "no stack"), ("give y B", "no stack"), ("give y 0", "no stack"), ("give y y", "no stack"),
    ("give y a", "same"), ("give z b", "same"), ("give y a 0", "same"),
    ("give x b", "buried"), ("give x b 1", "buried"),
    ("give y d", "too heavy"), ("give y c", "too heavy"),
    ("give z e 0", "no reach"), ("give y f 1", "no reach"),
    # Several refusals are due, and the first one is told.
    ("give w g 2", "no crane"), ("give x a 2", "no crane"), ("give w g", "no box"), ("give x g", "no stack"),
    ("give x a", "same"), ("give x d", "buried"), ("give x e 0", "buried"), ("give y d 0", "too heavy"),
    ("give y a 1", "same"),
]
