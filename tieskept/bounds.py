"""How far the arguments of the package go."""

# Lines of a network: at most, where all words are gone through, with tags, and where orders are looked for.
MAX_LINES = 24
MAX_WORDY = 10
MAX_TAGGED = 7
MAX_TOLD = 6

MAX_GATES = 1000
MAX_KEY = 10 ** 12
MAX_WORDS = 256
MAX_TIMES = 10 ** 30

# What a bench holds: names, the edits of one batch, and the edits that stand.
MAX_NAMES = 6
BATCH = 8
MAX_EDITS = 40
