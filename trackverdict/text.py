"""The text with all that is kept of it, and the calls that set or ask single values."""

from trackverdict.refusals import BAD_ORDER, BAD_VALUE
from trackverdict.row import count_pieces, count_shown
from trackverdict.runs import PARAGRAPH_END, PLAIN_LOOK, Run, bears


# accepted, rejected and fallen are the tallies of the change.
class Change:
    def __init__(self, author, time, kind):
        self.author = author
        self.time = time
        self.kind = kind
        self.accepted = 0
        self.rejected = 0
        self.fallen = 0


# row is a list of runs; the change with the number c is at changes[c - 1].
class Text:
    def __init__(self):
        self.author = 1
        self.time = 0
        self.tracking = False
        self.changes = []
        self.row = [Run((PARAGRAPH_END,), PLAIN_LOOK, (), (), ())]


def set_author(text, a):
    if not 1 <= a <= 99:
        return [BAD_VALUE]
    text.author = a
    return [0]


def set_clock(text, t):
    if t < 0:
        return [BAD_VALUE]
    if t < text.time:
        return [BAD_ORDER]
    text.time = t
    return [0]


def set_tracking(text, on):
    if not 0 <= on <= 1:
        return [BAD_VALUE]
    text.tracking = on == 1
    return [0]


def tell_size(text):
    without_insertions = [run for run in text.row if len(run.insertions) == 0]
    return [
        count_shown(text.row),
        count_pieces(text.row),
        count_pieces(without_insertions),
        len(text.changes),
    ]


# The number that the change of the command under way has, if it comes to be entered.
def coming_change(text):
    return len(text.changes) + 1


def is_borne(row, c):
    for run in row:
        if bears(run, c):
            return True
    return False


# Called when a command is done: a change that no piece bears is never entered.
def enter_change(text, kind):
    m = coming_change(text)
    if not is_borne(text.row, m):
        return 0
    text.changes.append(Change(text.author, text.time, kind))
    return m


def is_own(text, run):
    if len(run.insertions) == 0:
        return False
    last = text.changes[run.insertions[-1] - 1]
    return last.author == text.author
