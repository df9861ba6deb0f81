"""The calls that only tell: falls, spots, standing, fate, what, row, people and size."""

from trackverdict.outcomes import Outcome, changes_left, give_verdict, is_verdict, keyed
from trackverdict.refusals import BAD_VALUE, NO_SUCH_CHANGE
from trackverdict.row import changes_borne, count_by_marks, count_marks_of, count_pieces, count_shown
from trackverdict.runs import changes_pending, looks_with, role_of, values_pending
from trackverdict.text import is_entered


# A dict with the changes, as its keys, that would still stand after judge (v, c).
def standing_after(row, v, c):
    left = {}
    for marks in count_by_marks(row):
        outcome = Outcome(marks)
        give_verdict(outcome, v, c)
        left.update(keyed(changes_left(outcome)))
    return left


def tell_falls(text, v, c):
    if not is_verdict(v):
        return [BAD_VALUE]
    if not is_entered(text, c):
        return [NO_SUCH_CHANGE]
    left = standing_after(text.row, v, c)
    falling = [d for d in sorted(changes_borne(text.row)) if d != c and d not in left]
    return [len(falling)] + falling


def tell_spots(text, c):
    if not is_entered(text, c):
        return [NO_SUCH_CHANGE]
    told = [0]
    place = 0
    role_before = 0
    for run in text.row:
        role = role_of(run, c)
        if role != 0 and role == role_before:
            told[-2] = told[-2] + len(run.signs)
        elif role != 0:
            told[0] = told[0] + 1
            told.extend([place, len(run.signs), role])
        place = place + len(run.signs)
        role_before = role
    return told


def tell_standing(text):
    standing = sorted(changes_borne(text.row))
    return [len(standing)] + standing


def tell_fate(text, c):
    if not is_entered(text, c):
        return [NO_SUCH_CHANGE]
    change = text.changes[c - 1]
    marks = count_marks_of(text.row, c)
    return [change.author, change.time, change.kind, marks, change.accepted, change.rejected, change.fallen]


# Whether a piece of the run stands in the text that what tells; listed has the changes of
# the list as its keys.
def stands_with(run, listed):
    if any([c in listed for c in run.deletions]):
        return False
    return all([c in listed for c in run.insertions])


def tell_what(text, changes):
    if not all([is_entered(text, c) for c in changes]):
        return [NO_SUCH_CHANGE]
    listed = keyed(changes)
    runs = [run for run in text.row if stands_with(run, listed)]
    told = [count_pieces(runs)]
    for run in runs:
        values = values_pending([entry for entry in run.pending if entry[0] in listed])
        for sign, look in zip(run.signs, looks_with(run.looks, values)):
            told.append(sign)
            told.extend(look)
    return told


def tell_marks(run):
    told = [len(run.insertions)]
    told.extend(run.insertions)
    told.append(len(run.deletions))
    told.extend(run.deletions)
    told.append(len(run.pending))
    for entry in run.pending:
        told.extend(entry)
    return told


def tell_row(text):
    told = [count_pieces(text.row)]
    for run in text.row:
        marks = tell_marks(run)
        for sign, look in zip(run.signs, run.looks):
            told.append(sign)
            told.extend(look)
            told.extend(marks)
    return told


# What one author has in the text: changes that stand, and their marks by where they are.
class Person:
    def __init__(self):
        self.standing = 0
        self.inserting = 0
        self.deleting = 0
        self.painting = 0


# A dict from each author by whom some change stands to the person.
def people_of(text):
    people = {}
    for c in changes_borne(text.row):
        person = people.setdefault(text.changes[c - 1].author, Person())
        person.standing = person.standing + 1
    pieces = count_by_marks(text.row)
    for marks in pieces:
        for c in marks[0]:
            person = people[text.changes[c - 1].author]
            person.inserting = person.inserting + pieces[marks]
        for c in marks[1]:
            person = people[text.changes[c - 1].author]
            person.deleting = person.deleting + pieces[marks]
        for c in changes_pending(marks[2]):
            person = people[text.changes[c - 1].author]
            person.painting = person.painting + pieces[marks]
    return people


def tell_people(text):
    people = people_of(text)
    told = [len(people)]
    for author in sorted(people):
        person = people[author]
        told.extend([author, person.standing, person.inserting, person.deleting, person.painting])
    return told


def tell_size(text):
    without_insertions = [run for run in text.row if len(run.insertions) == 0]
    return [
        count_shown(text.row),
        count_pieces(text.row),
        count_pieces(without_insertions),
        len(text.changes),
    ]
