"""Counting in a row of runs, and dividing it at places."""

from trackverdict.runs import changes_of, is_shown, marks_of, part_of


def count_pieces(row):
    return sum([len(run.signs) for run in row])


def count_shown(row):
    return count_pieces([run for run in row if is_shown(run)])


# A dict from the marks that pieces bear to the number of pieces that bear just these.
def count_by_marks(row):
    counts = {}
    for run in row:
        marks = marks_of(run)
        counts[marks] = counts.get(marks, 0) + len(run.signs)
    return counts


# A dict with the changes, as its keys, that some piece of the runs bears.
def changes_borne(runs):
    borne = {}
    for run in runs:
        for c in changes_of(marks_of(run)):
            borne[c] = True
    return borne


# How many marks all changes together have.
def count_marks(row):
    return sum([len(changes_of(marks_of(run))) * len(run.signs) for run in row])


def count_marks_of(row, c):
    return sum([changes_of(marks_of(run)).count(c) * len(run.signs) for run in row])


# Two lists of runs: all before the piece at the place, and it with all behind. Places
# count the pieces of the runs for which is_counted, a function, tells True. The place
# may be the number of these pieces: then nothing is behind.
def divide_counting(row, place, is_counted):
    passed = 0
    for index, run in enumerate(row):
        if is_counted(run):
            inner = place - passed
            if inner == 0:
                return (row[:index], row[index:])
            if inner < len(run.signs):
                left = part_of(run, 0, inner)
                right = part_of(run, inner, len(run.signs))
                return (row[:index] + [left], [right] + row[index + 1:])
            passed = passed + len(run.signs)
    return (list(row), [])


def divide(row, place):
    return divide_counting(row, place, is_shown)


def divide_at_row_place(row, place):
    return divide_counting(row, place, lambda run: True)


# Three lists of runs: before the piece at p, from it to before the piece at q, and
# from there on. The stretch from p to q is the shown runs of the second.
def divide_stretch(row, p, q):
    front = divide(row, p)
    back = divide(front[1], q - p)
    return (front[0], back[0], back[1])


# Three lists of runs: before the part, the part, behind it.
def divide_part(row, i, j):
    front = divide_at_row_place(row, i)
    back = divide_at_row_place(front[1], j - i)
    return (front[0], back[0], back[1])
