"""The text with all that is kept of it, and the calls that set single values."""

from trackverdict.refusals import BAD_ORDER, BAD_VALUE
from trackverdict.runs import PARAGRAPH_END, PLAIN_LOOK, Run

KIND_PUT = 1
KIND_CUT = 2
KIND_PAINT = 3
KIND_MOVE = 4


# accepted, rejected and fallen are the tallies of the change.
class Change:
    def __init__(self, author, time, kind):
        self.author = author
        self.time = time
        self.kind = kind
        self.accepted = 0
        self.rejected = 0
        self.fallen = 0


# row is a list of runs; the change with the number c is at changes[c - 1].
class Text:
    def __init__(self):
        self.author = 1
        self.time = 0
        self.tracking = False
        self.changes = []
        self.row = [Run((PARAGRAPH_END,), (PLAIN_LOOK,), (), (), ())]


def set_author(text, a):
    if not 1 <= a <= 99:
        return [BAD_VALUE]
    text.author = a
    return [0]


def set_clock(text, t):
    if t < 0:
        return [BAD_VALUE]
    if t < text.time:
        return [BAD_ORDER]
    text.time = t
    return [0]


def set_tracking(text, on):
    if not 0 <= on <= 1:
        return [BAD_VALUE]
    text.tracking = on == 1
    return [0]


def is_entered(text, c):
    return 1 <= c <= len(text.changes)


# The number that the change of the command under way has, if it comes to be entered.
def coming_change(text):
    return len(text.changes) + 1


# m is newer than all other changes: a list that holds it has it at its end.
def bears_newest(run, m):
    if run.insertions[-1:] == (m,) or run.deletions[-1:] == (m,):
        return True
    return len(run.pending) > 0 and run.pending[-1][0] == m


# Called when a command is done, with the runs of the row that it made: a change that
# no piece bears is never entered.
def enter_change(text, kind, made):
    m = coming_change(text)
    if not any([bears_newest(run, m) for run in made]):
        return 0
    text.changes.append(Change(text.author, text.time, kind))
    return m


def is_own(text, run):
    if len(run.insertions) == 0:
        return False
    last = text.changes[run.insertions[-1] - 1]
    return last.author == text.author
