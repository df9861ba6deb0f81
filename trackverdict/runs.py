"""Runs: neighbouring pieces of the row that bear the same marks.

Commands work on long stretches and a tracked move copies them, so the row keeps
runs in the place of single pieces. What is said of a run's marks is said of each
of its pieces. A run is never changed once it is made, so that runs can be shared.
"""

PARAGRAPH_END = 10
PLAIN_LOOK = (0, 0, 0, 0)
PROPERTIES = (0, 1, 2, 3)


# All five values are tuples. signs and looks have one entry for each piece, a look being
# a tuple of four numbers; a pending look is a tuple (change, property, value).
class Run:
    def __init__(self, signs, looks, insertions, deletions, pending):
        self.signs = signs
        self.looks = looks
        self.insertions = insertions
        self.deletions = deletions
        self.pending = pending


def is_shown(run):
    return len(run.deletions) == 0


def marks_of(run):
    return (run.insertions, run.deletions, run.pending)


# The changes that the pending looks name, each as often as they name it.
def changes_pending(pending):
    return [entry[0] for entry in pending]


# marks are as marks_of tells them; a change comes as often as it marks a piece with these.
def changes_of(marks):
    return list(marks[0]) + list(marks[1]) + changes_pending(marks[2])


def role_of(run, c):
    role = 0
    if c in run.insertions:
        role = role + 1
    if c in run.deletions:
        role = role + 2
    if c in changes_pending(run.pending):
        role = role + 4
    return role


# A dict from each property that some of the pending looks name to the last value for it.
def values_pending(pending):
    values = {}
    for entry in pending:
        values[entry[1]] = entry[2]
    return values


# The look with the values of the dict in the place of its own.
def look_with(look, values):
    return tuple([values.get(k, look[k]) for k in PROPERTIES])


# Each look is worked out once however often it comes, since a run may be long.
def looks_with(looks, values):
    if len(values) == 0:
        return looks
    changed = {}
    for look in looks:
        if look not in changed:
            changed[look] = look_with(look, values)
    return tuple([changed[look] for look in looks])


def look_as_shown(run, index):
    return look_with(run.looks[index], values_pending(run.pending))


def part_of(run, start, end):
    return Run(run.signs[start:end], run.looks[start:end], run.insertions, run.deletions, run.pending)


def with_insertion(run, m):
    return Run(run.signs, run.looks, run.insertions + (m,), run.deletions, run.pending)


def with_deletion(run, m):
    return Run(run.signs, run.looks, run.insertions, (m,), run.pending)


def with_pending_look(run, m, k, value):
    return Run(run.signs, run.looks, run.insertions, run.deletions, run.pending + ((m, k, value),))


def painted_outright(run, k, value):
    looks = looks_with(run.looks, {k: value})
    pending = tuple([entry for entry in run.pending if entry[1] != k])
    return Run(run.signs, looks, run.insertions, run.deletions, pending)


# Answers several runs: pieces that show the value already stay without the mark.
def painted_tracked(run, m, k, value):
    pending = values_pending(run.pending)
    showing = [pending.get(k, look[k]) == value for look in run.looks]
    runs = []
    start = 0
    for end in range(1, len(showing) + 1):
        if end == len(showing) or showing[end] != showing[start]:
            part = part_of(run, start, end)
            runs.append(part if showing[start] else with_pending_look(part, m, k, value))
            start = end
    return runs
