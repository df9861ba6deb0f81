"""Counting in a row of runs, and dividing it at places of shown pieces."""

from trackverdict.runs import changes_of, is_shown, marks_of, part_of


def count_pieces(row):
    return sum([len(run.signs) for run in row])


def count_shown(row):
    return count_pieces([run for run in row if is_shown(run)])


# A dict from the marks that pieces bear to the number of pieces that bear just these.
def count_by_marks(row):
    counts = {}
    for run in row:
        marks = marks_of(run)
        counts[marks] = counts.get(marks, 0) + len(run.signs)
    return counts


# A dict from each change that stands in the row to the number of its marks.
def count_marks(row):
    pieces = count_by_marks(row)
    counts = {}
    for marks in pieces:
        for c in changes_of(marks):
            counts[c] = counts.get(c, 0) + pieces[marks]
    return counts


# Two lists of runs: all before the shown piece at the place, and it with all behind.
# The place may be the number of shown pieces: then nothing is behind.
def divide(row, place):
    shown = 0
    for index, run in enumerate(row):
        if is_shown(run):
            inner = place - shown
            if inner == 0:
                return (row[:index], row[index:])
            if inner < len(run.signs):
                left = part_of(run, 0, inner)
                right = part_of(run, inner, len(run.signs))
                return (row[:index] + [left], [right] + row[index + 1:])
            shown = shown + len(run.signs)
    return (list(row), [])


# Three lists of runs: before the piece at p, from it to before the piece at q, and
# from there on. The stretch from p to q is the shown runs of the second.
def divide_stretch(row, p, q):
    front = divide(row, p)
    back = divide(front[1], q - p)
    return (front[0], back[0], back[1])
