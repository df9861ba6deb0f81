"""The commands that work on the text: put, cut, paint and move."""

from trackverdict.refusals import BAD_ORDER, BAD_PLACE, BAD_VALUE
from trackverdict.row import count_shown, divide, divide_stretch
from trackverdict.runs import PARAGRAPH_END, PLAIN_LOOK, Run, is_shown, look_as_shown
from trackverdict.runs import painted_outright, painted_tracked
from trackverdict.runs import with_deletion, with_insertion
from trackverdict.text import KIND_CUT, KIND_MOVE, KIND_PAINT, KIND_PUT
from trackverdict.text import coming_change, enter_change, is_own


def is_sign(number):
    return number == PARAGRAPH_END or 32 <= number <= 126


# Whether a command works on the run at once, without a mark.
def works_outright(text, run):
    return not text.tracking or is_own(text, run)


# The look of new signs that stand behind these runs.
def look_behind(before):
    for run in reversed(before):
        if is_shown(run):
            if run.signs[-1] == PARAGRAPH_END:
                return PLAIN_LOOK
            return look_as_shown(run, len(run.signs) - 1)
    return PLAIN_LOOK


# The look of new paragraph's ends before these runs, which hold the last end at least.
def look_of_end(behind):
    ends = [run for run in behind if is_shown(run) and PARAGRAPH_END in run.signs]
    return look_as_shown(ends[0], ends[0].signs.index(PARAGRAPH_END))


def put(text, p, signs):
    if not 0 <= p <= count_shown(text.row) - 1:
        return [BAD_PLACE]
    if len(signs) == 0 or not all([is_sign(number) for number in signs]):
        return [BAD_VALUE]
    halves = divide(text.row, p)
    sign_look = look_behind(halves[0])
    end_look = look_of_end(halves[1])
    looks = [end_look if sign == PARAGRAPH_END else sign_look for sign in signs]
    insertions = (coming_change(text),) if text.tracking else ()
    made = [Run(tuple(signs), tuple(looks), insertions, (), ())]
    text.row = halves[0] + made + halves[1]
    return [enter_change(text, KIND_PUT, made)]


def cut(text, p, q):
    if not 0 <= p < q <= count_shown(text.row) - 1:
        return [BAD_PLACE]
    m = coming_change(text)
    parts = divide_stretch(text.row, p, q)
    staying = []
    for run in parts[1]:
        if not is_shown(run):
            staying.append(run)
        elif not works_outright(text, run):
            staying.append(with_deletion(run, m))
    text.row = parts[0] + staying + parts[2]
    return [enter_change(text, KIND_CUT, staying)]


# Answers the runs that the run becomes.
def painted(text, run, k, value):
    if not is_shown(run):
        return [run]
    if works_outright(text, run):
        return [painted_outright(run, k, value)]
    return painted_tracked(run, coming_change(text), k, value)


def paint(text, p, q, k, value):
    if not 0 <= p < q <= count_shown(text.row):
        return [BAD_PLACE]
    if not 0 <= k <= 3 or not 0 <= value <= 99:
        return [BAD_VALUE]
    parts = divide_stretch(text.row, p, q)
    made = []
    for run in parts[1]:
        made.extend(painted(text, run, k, value))
    text.row = parts[0] + made + parts[2]
    return [enter_change(text, KIND_PAINT, made)]


def move(text, p, q, r):
    last = count_shown(text.row) - 1
    if not 0 <= p < q <= last or not 0 <= r <= last:
        return [BAD_PLACE]
    if p <= r <= q:
        return [BAD_ORDER]
    m = coming_change(text)
    parts = divide_stretch(text.row, p, q)
    staying = []
    coming = []
    for run in parts[1]:
        if not is_shown(run):
            staying.append(run)
        elif works_outright(text, run):
            coming.append(run)
        else:
            staying.append(with_deletion(run, m))
            coming.append(with_insertion(run, m))
    if r < p:
        halves = divide(parts[0], r)
        text.row = halves[0] + coming + halves[1] + staying + parts[2]
    else:
        halves = divide(parts[2], r - q)
        text.row = parts[0] + staying + halves[0] + coming + halves[1]
    return [enter_change(text, KIND_MOVE, staying + coming)]
