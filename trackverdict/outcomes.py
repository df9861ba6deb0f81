"""What verdicts make of pieces and of the tallies of the changes."""

from trackverdict.row import count_by_marks
from trackverdict.runs import Run, changes_of, looks_with, marks_of

ACCEPT = 1


# What verdicts make of a piece with these marks, whatever its sign and own look are.
# settled is a dict from the properties of the own look that they set to the values.
class Outcome:
    def __init__(self, marks):
        self.gone = False
        self.insertions = marks[0]
        self.deletions = marks[1]
        self.pending = marks[2]
        self.settled = {}


def is_verdict(v):
    return 0 <= v <= 1


# A dict with the changes as its keys, in which they are quick to find.
def keyed(changes):
    return dict([(c, True) for c in changes])


def without(changes, c):
    return tuple([d for d in changes if d != c])


def accept(outcome, c):
    if c in outcome.deletions:
        outcome.gone = True
        return
    last = {}
    for index, entry in enumerate(outcome.pending):
        if entry[0] == c:
            last[entry[1]] = index
    for k in last:
        outcome.settled[k] = outcome.pending[last[k]][2]
    pending = [entry for index, entry in enumerate(outcome.pending) if index > last.get(entry[1], -1)]
    outcome.pending = tuple(pending)
    outcome.insertions = without(outcome.insertions, c)


def reject(outcome, c):
    if c in outcome.insertions:
        outcome.gone = True
        return
    outcome.pending = tuple([entry for entry in outcome.pending if entry[0] != c])
    outcome.deletions = without(outcome.deletions, c)


def give_verdict(outcome, v, c):
    if v == ACCEPT:
        accept(outcome, c)
    else:
        reject(outcome, c)


def changes_left(outcome):
    if outcome.gone:
        return []
    return changes_of((outcome.insertions, outcome.deletions, outcome.pending))


# Adds the weight to a tally of each of the lost changes, once for each time it comes.
def tally(changes, v, c, lost, weight):
    for d in lost:
        change = changes[d - 1]
        if d != c:
            change.fallen = change.fallen + weight
        elif v == ACCEPT:
            change.accepted = change.accepted + weight
        else:
            change.rejected = change.rejected + weight


# The tallies count what happens here as often as there are pieces with these marks.
def outcome_of(changes, marks, pieces, v, selected):
    outcome = Outcome(marks)
    judged = [c for c in changes_of(marks) if c in selected]
    for c in sorted(set(judged)):
        if not outcome.gone:
            before = changes_left(outcome)
            give_verdict(outcome, v, c)
            tally(changes, v, c, before, pieces)
            tally(changes, v, c, changes_left(outcome), 0 - pieces)
    return outcome


def run_after(run, outcome):
    looks = looks_with(run.looks, outcome.settled)
    return Run(run.signs, looks, outcome.insertions, outcome.deletions, outcome.pending)


# Answers the runs that are left of the runs. What a verdict does to a piece hangs on that
# piece alone, and tallies only add up: so pieces with the same marks are judged at once,
# upon each of the selected changes by rising number, before other pieces are.
# selected is a dict with the selected changes as its keys.
def give_verdicts(changes, runs, v, selected):
    pieces = count_by_marks(runs)
    outcomes = {}
    for marks in pieces:
        outcomes[marks] = outcome_of(changes, marks, pieces[marks], v, selected)
    left = []
    for run in runs:
        outcome = outcomes[marks_of(run)]
        if not outcome.gone:
            left.append(run_after(run, outcome))
    return left
