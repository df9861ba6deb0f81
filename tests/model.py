"""The document once more, piece by piece and word by word, to compare the program with.

It is slow and knows no runs: a row of single pieces, each verdict given to one piece after another.
"""

import copy
import itertools


class Piece:
    def __init__(self, sign, look, insertions):
        self.sign = sign
        self.look = list(look)
        self.insertions = list(insertions)
        self.deletions = []
        self.pending = []

    def moved(self):
        other = Piece(self.sign, self.look, self.insertions)
        other.pending = list(self.pending)
        return other

    def shown_look(self):
        look = list(self.look)
        for k in range(4):
            values = [value for _, trait, value in self.pending if trait == k]
            if values:
                look[k] = values[-1]
        return look

    def marks(self):
        return self.insertions + self.deletions + [c for c, _, _ in self.pending]

    def role(self, c):
        painting = [d for d, _, _ in self.pending]
        return 1 * (c in self.insertions) + 2 * (c in self.deletions) + 4 * (c in painting)

    def told(self):
        return (self.sign, tuple(self.look), tuple(self.insertions), tuple(self.deletions), tuple(self.pending))


def stays_after(piece, v, c):
    if c not in piece.marks():
        return True
    if v == 1:
        if c in piece.deletions:
            return False
        piece.insertions = [d for d in piece.insertions if d != c]
        for k in range(4):
            accept_pending(piece, c, k)
        return True
    if c in piece.insertions:
        return False
    piece.deletions = [d for d in piece.deletions if d != c]
    piece.pending = [entry for entry in piece.pending if entry[0] != c]
    return True


def accept_pending(piece, c, k):
    naming = [at for at, entry in enumerate(piece.pending) if entry[0] == c and entry[1] == k]
    if naming:
        last = naming[-1]
        piece.look[k] = piece.pending[last][2]
        before = [entry for entry in piece.pending[:last] if entry[1] != k]
        piece.pending = before + piece.pending[last + 1:]


class Model:
    def __init__(self):
        self.pieces = [Piece(10, [0, 0, 0, 0], [])]
        self.now = (1, 0)
        self.tracking = False
        self.changes = []
        self.tallies = []

    def shown(self):
        return [piece for piece in self.pieces if not piece.deletions]

    def own(self, piece):
        return bool(piece.insertions) and self.changes[piece.insertions[-1] - 1][0] == self.now[0]

    def outright(self, piece):
        return not self.tracking or self.own(piece)

    def before(self, target, pieces):
        at = [index for index, piece in enumerate(self.pieces) if piece is target][0]
        self.pieces[at:at] = pieces

    def take_out(self, target):
        self.pieces = [piece for piece in self.pieces if piece is not target]

    def enter(self, kind):
        m = len(self.changes) + 1
        if not any(m in piece.marks() for piece in self.pieces):
            return 0
        self.changes.append(self.now + (kind,))
        self.tallies.append([0, 0, 0])
        return m

    def author(self, a):
        if a < 1 or a > 99:
            return -2
        self.now = (a, self.now[1])
        return 0

    def clock(self, t):
        if t < 0:
            return -2
        if t < self.now[1]:
            return -3
        self.now = (self.now[0], t)
        return 0

    def track(self, on):
        if on not in (0, 1):
            return -2
        self.tracking = on == 1
        return 0

    def put(self, p, signs):
        shown = self.shown()
        if p < 0 or p > len(shown) - 1:
            return -1
        if not signs or any(sign != 10 and not 32 <= sign <= 126 for sign in signs):
            return -2
        insertions = [len(self.changes) + 1] if self.tracking else []
        end = [piece for piece in shown[p:] if piece.sign == 10][0]
        new = []
        for sign in signs:
            look = [0, 0, 0, 0]
            if sign == 10:
                look = end.shown_look()
            elif p > 0 and shown[p - 1].sign != 10:
                look = shown[p - 1].shown_look()
            new.append(Piece(sign, look, insertions))
        self.before(shown[p], new)
        return self.enter(1)

    def cut(self, p, q):
        shown = self.shown()
        if not (0 <= p and p < q and q <= len(shown) - 1):
            return -1
        m = len(self.changes) + 1
        for piece in shown[p:q]:
            if self.outright(piece):
                self.take_out(piece)
            else:
                piece.deletions = [m]
        return self.enter(2)

    def paint(self, p, q, k, v):
        shown = self.shown()
        if not (0 <= p and p < q and q <= len(shown)):
            return -1
        if k not in (0, 1, 2, 3) or v < 0 or v > 99:
            return -2
        m = len(self.changes) + 1
        for piece in shown[p:q]:
            if self.outright(piece):
                piece.pending = [entry for entry in piece.pending if entry[1] != k]
                piece.look[k] = v
            elif piece.shown_look()[k] != v:
                piece.pending.append((m, k, v))
        return self.enter(3)

    def move(self, p, q, r):
        shown = self.shown()
        end = len(shown) - 1
        if not (0 <= p and p < q and q <= end and 0 <= r and r <= end):
            return -1
        if p <= r and r <= q:
            return -3
        m = len(self.changes) + 1
        coming = []
        for piece in shown[p:q]:
            if self.outright(piece):
                self.take_out(piece)
                coming.append(piece)
            else:
                twin = piece.moved()
                twin.insertions.append(m)
                coming.append(twin)
                piece.deletions = [m]
        self.before(shown[r], coming)
        return self.enter(4)

    def marks(self):
        counts = [0] * (len(self.changes) + 1)
        for piece in self.pieces:
            for c in piece.marks():
                counts[c] += 1
        return counts

    def give(self, v, c, pieces):
        before = self.marks()
        for piece in pieces:
            if not stays_after(piece, v, c):
                self.take_out(piece)
        now = self.marks()
        for d in range(1, len(self.changes) + 1):
            column = 2 if d != c else 1 - v
            self.tallies[d - 1][column] += before[d] - now[d]

    def judge_selected(self, v, selected, part=None):
        """Upon what is no move the verdict is given to the part alone, if there is one."""
        before = self.marks()
        pieces = len(self.pieces)
        for c in sorted(set(selected)):
            given = self.pieces
            if part is not None and self.changes[c - 1][2] != 4:
                given = [piece for piece in self.pieces if any(piece is other for other in part)]
            self.give(v, c, given)
        stood = len([c for c in set(selected) if before[c] > 0])
        return [stood, pieces - len(self.pieces), sum(before) - sum(self.marks())]

    def judge(self, v, c):
        if v not in (0, 1):
            return -2
        if c < 1 or c > len(self.changes):
            return -4
        return self.judge_selected(v, [c])

    def judgeby(self, v, a, k, from_time, to_time):
        if v not in (0, 1) or a < 0 or a > 99 or k < 0 or k > 4:
            return -2
        selected = []
        for index, (author, time, kind) in enumerate(self.changes):
            if a in (0, author) and k in (0, kind) and time >= from_time and time <= to_time:
                selected.append(index + 1)
        return self.judge_selected(v, selected)

    def judgelist(self, v, changes):
        if v not in (0, 1):
            return -2
        if any(c < 1 or c > len(self.changes) for c in changes):
            return -4
        return self.judge_selected(v, changes)

    def refused_part(self, v, i, j):
        if v not in (0, 1):
            return -2
        if not (0 <= i and i < j and j <= len(self.pieces)):
            return -1
        return 0

    def judgetouching(self, v, i, j):
        refusal = self.refused_part(v, i, j)
        if refusal:
            return refusal
        return self.judge_selected(v, [c for piece in self.pieces[i:j] for c in piece.marks()])

    def judgepart(self, v, i, j):
        refusal = self.refused_part(v, i, j)
        if refusal:
            return refusal
        part = self.pieces[i:j]
        return self.judge_selected(v, [c for piece in part for c in piece.marks()], part)

    def standing(self):
        numbers = [c for c, marks in enumerate(self.marks()) if marks > 0]
        return [len(numbers)] + numbers

    def falls(self, v, c):
        after = copy.deepcopy(self)
        answer = after.judge(v, c)
        if not isinstance(answer, list):
            return answer
        left = after.standing()[1:]
        numbers = [d for d in self.standing()[1:] if d != c and d not in left]
        return [len(numbers)] + numbers

    def spots(self, c):
        if c < 1 or c > len(self.changes):
            return -4
        roles = [(place, piece.role(c)) for place, piece in enumerate(self.pieces)]
        told = []
        for role, group in itertools.groupby(roles, key=lambda pair: pair[1]):
            places = [place for place, _ in group]
            if role != 0:
                told.append([places[0], len(places), role])
        return [len(told)] + sum(told, [])

    def fate(self, c):
        if c < 1 or c > len(self.changes):
            return -4
        return list(self.changes[c - 1]) + [self.marks()[c]] + self.tallies[c - 1]

    def what(self, changes):
        if any(c < 1 or c > len(self.changes) for c in changes):
            return -4
        told = []
        for piece in self.pieces:
            if set(piece.insertions) <= set(changes) and not set(piece.deletions) & set(changes):
                twin = piece.moved()
                twin.pending = [entry for entry in piece.pending if entry[0] in changes]
                told.append([piece.sign] + twin.shown_look())
        return [len(told)] + sum(told, [])

    def row(self):
        told = [len(self.pieces)]
        for piece in self.pieces:
            told += [piece.sign] + piece.look
            told += [len(piece.insertions)] + piece.insertions
            told += [len(piece.deletions)] + piece.deletions
            told += [len(piece.pending)] + [number for entry in piece.pending for number in entry]
        return told

    def people(self):
        standing = self.standing()[1:]
        authors = sorted(set(self.changes[c - 1][0] for c in standing))
        told = [len(authors)]
        for author in authors:
            theirs = [c for c in standing if self.changes[c - 1][0] == author]
            told += [author, len(theirs)]
            told.append(sum(piece.insertions.count(c) for c in theirs for piece in self.pieces))
            told.append(sum(piece.deletions.count(c) for c in theirs for piece in self.pieces))
            told.append(sum(d == c for c in theirs for piece in self.pieces for d, _, _ in piece.pending))
        return told

    def size(self):
        bare = [piece for piece in self.pieces if not piece.insertions]
        return [len(self.shown()), len(self.pieces), len(bare), len(self.changes)]

    def state(self):
        return (
            [piece.told() for piece in self.pieces],
            self.changes,
            [tuple(tally) for tally in self.tallies],
            self.now[0],
            self.now[1],
            self.tracking,
        )
