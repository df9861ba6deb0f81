"""Runs: neighbouring pieces of the row that differ in nothing but their signs.

Commands work on long stretches and a tracked move copies them, so the row keeps
runs in the place of single pieces. What is said of a run is said of each of its
pieces. A run is never changed once it is made, so that runs can be shared.
"""

PARAGRAPH_END = 10
PLAIN_LOOK = (0, 0, 0, 0)


# All five values are tuples; a pending look is a tuple (change, property, value).
class Run:
    def __init__(self, signs, look, insertions, deletions, pending):
        self.signs = signs
        self.look = look
        self.insertions = insertions
        self.deletions = deletions
        self.pending = pending


def is_shown(run):
    return len(run.deletions) == 0


def bears(run, c):
    if c in run.insertions or c in run.deletions:
        return True
    return c in [entry[0] for entry in run.pending]


def marks_of(run):
    return (run.insertions, run.deletions, run.pending)


# marks are as marks_of tells them; a change comes as often as it marks a piece with these.
def changes_of(marks):
    return list(marks[0]) + list(marks[1]) + [entry[0] for entry in marks[2]]


def value_as_shown(run, k):
    for entry in reversed(run.pending):
        if entry[1] == k:
            return entry[2]
    return run.look[k]


def look_as_shown(run):
    return tuple([value_as_shown(run, k) for k in range(len(run.look))])


def part_of(run, start, end):
    return Run(run.signs[start:end], run.look, run.insertions, run.deletions, run.pending)


def with_insertion(run, m):
    return Run(run.signs, run.look, run.insertions + (m,), run.deletions, run.pending)


def with_deletion(run, m):
    return Run(run.signs, run.look, run.insertions, (m,), run.pending)


def with_pending_look(run, m, k, value):
    return Run(run.signs, run.look, run.insertions, run.deletions, run.pending + ((m, k, value),))


def painted_outright(run, k, value):
    look = list(run.look)
    look[k] = value
    pending = tuple([entry for entry in run.pending if entry[1] != k])
    return Run(run.signs, tuple(look), run.insertions, run.deletions, pending)
