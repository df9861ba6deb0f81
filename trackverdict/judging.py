"""The calls that give verdicts: judge, judgeby, judgelist, judgetouching and judgepart."""

from trackverdict.outcomes import give_verdicts, is_verdict, keyed
from trackverdict.refusals import BAD_PLACE, BAD_VALUE, NO_SUCH_CHANGE
from trackverdict.row import changes_borne, count_marks, count_pieces, divide_part
from trackverdict.text import KIND_MOVE, is_entered


# shares cover the row in its order: each is a tuple of some runs and a dict with the
# changes, as its keys, upon which these runs get the verdict.
def judge_shares(text, v, selected, shares):
    before = text.row
    left = []
    for share in shares:
        left.extend(give_verdicts(text.changes, share[0], v, share[1]))
    text.row = left
    borne = changes_borne(before)
    stood = len([c for c in selected if c in borne])
    gone = count_pieces(before) - count_pieces(left)
    return [stood, gone, count_marks(before) - count_marks(left)]


def judge_everywhere(text, v, selected):
    return judge_shares(text, v, selected, [(text.row, selected)])


def judge(text, v, c):
    if not is_verdict(v):
        return [BAD_VALUE]
    if not is_entered(text, c):
        return [NO_SUCH_CHANGE]
    return judge_everywhere(text, v, keyed([c]))


def judgeby(text, v, a, k, from_time, to_time):
    if not is_verdict(v):
        return [BAD_VALUE]
    if not 0 <= a <= 99 or not 0 <= k <= 4:
        return [BAD_VALUE]
    selected = {}
    for index, change in enumerate(text.changes):
        by_author = a == 0 or change.author == a
        of_kind = k == 0 or change.kind == k
        if by_author and of_kind and from_time <= change.time <= to_time:
            selected[index + 1] = True
    return judge_everywhere(text, v, selected)


def judgelist(text, v, changes):
    if not is_verdict(v):
        return [BAD_VALUE]
    if not all([is_entered(text, c) for c in changes]):
        return [NO_SUCH_CHANGE]
    return judge_everywhere(text, v, keyed(changes))


def is_part(text, i, j):
    return 0 <= i < j <= count_pieces(text.row)


def judgetouching(text, v, i, j):
    if not is_verdict(v):
        return [BAD_VALUE]
    if not is_part(text, i, j):
        return [BAD_PLACE]
    parts = divide_part(text.row, i, j)
    return judge_everywhere(text, v, changes_borne(parts[1]))


def judgepart(text, v, i, j):
    if not is_verdict(v):
        return [BAD_VALUE]
    if not is_part(text, i, j):
        return [BAD_PLACE]
    parts = divide_part(text.row, i, j)
    selected = changes_borne(parts[1])
    moves = keyed([c for c in selected if text.changes[c - 1].kind == KIND_MOVE])
    return judge_shares(text, v, selected, [(parts[0], moves), (parts[1], selected), (parts[2], moves)])
