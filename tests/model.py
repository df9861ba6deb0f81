"""The document once more, piece by piece and word by word, to compare the program with.

It is slow and knows no runs: a row of single pieces, every verdict given to the whole row.
"""


class Piece:
    def __init__(self, sign, look, insertions):
        self.sign = sign
        self.look = list(look)
        self.insertions = list(insertions)
        self.deletions = []
        self.pending = []

    def copy(self):
        other = Piece(self.sign, self.look, self.insertions)
        other.pending = list(self.pending)
        return other

    def shown_look(self):
        look = list(self.look)
        for k in range(4):
            values = [value for _, trait, value in self.pending if trait == k]
            if values:
                look[k] = values[-1]
        return look

    def marks(self):
        return self.insertions + self.deletions + [c for c, _, _ in self.pending]

    def told(self):
        return (self.sign, tuple(self.look), tuple(self.insertions), tuple(self.deletions), tuple(self.pending))


def stays_after(piece, v, c):
    if c not in piece.marks():
        return True
    if v == 1:
        if c in piece.deletions:
            return False
        piece.insertions = [d for d in piece.insertions if d != c]
        for k in range(4):
            accept_pending(piece, c, k)
        return True
    if c in piece.insertions:
        return False
    piece.deletions = [d for d in piece.deletions if d != c]
    piece.pending = [entry for entry in piece.pending if entry[0] != c]
    return True


def accept_pending(piece, c, k):
    naming = [at for at, entry in enumerate(piece.pending) if entry[0] == c and entry[1] == k]
    if naming:
        last = naming[-1]
        piece.look[k] = piece.pending[last][2]
        before = [entry for entry in piece.pending[:last] if entry[1] != k]
        piece.pending = before + piece.pending[last + 1:]


class Model:
    def __init__(self):
        self.row = [Piece(10, [0, 0, 0, 0], [])]
        self.now = (1, 0)
        self.tracking = False
        self.changes = []
        self.tallies = []

    def shown(self):
        return [piece for piece in self.row if not piece.deletions]

    def own(self, piece):
        return bool(piece.insertions) and self.changes[piece.insertions[-1] - 1][0] == self.now[0]

    def outright(self, piece):
        return not self.tracking or self.own(piece)

    def before(self, target, pieces):
        at = [index for index, piece in enumerate(self.row) if piece is target][0]
        self.row[at:at] = pieces

    def take_out(self, target):
        self.row = [piece for piece in self.row if piece is not target]

    def enter(self, kind):
        m = len(self.changes) + 1
        if not any(m in piece.marks() for piece in self.row):
            return 0
        self.changes.append(self.now + (kind,))
        self.tallies.append([0, 0, 0])
        return m

    def author(self, a):
        if a < 1 or a > 99:
            return -2
        self.now = (a, self.now[1])
        return 0

    def clock(self, t):
        if t < 0:
            return -2
        if t < self.now[1]:
            return -3
        self.now = (self.now[0], t)
        return 0

    def track(self, on):
        if on not in (0, 1):
            return -2
        self.tracking = on == 1
        return 0

    def put(self, p, signs):
        shown = self.shown()
        if p < 0 or p > len(shown) - 1:
            return -1
        if not signs or any(sign != 10 and not 32 <= sign <= 126 for sign in signs):
            return -2
        insertions = [len(self.changes) + 1] if self.tracking else []
        end = [piece for piece in shown[p:] if piece.sign == 10][0]
        new = []
        for sign in signs:
            look = [0, 0, 0, 0]
            if sign == 10:
                look = end.shown_look()
            elif p > 0 and shown[p - 1].sign != 10:
                look = shown[p - 1].shown_look()
            new.append(Piece(sign, look, insertions))
        self.before(shown[p], new)
        return self.enter(1)

    def cut(self, p, q):
        shown = self.shown()
        if not (0 <= p and p < q and q <= len(shown) - 1):
            return -1
        m = len(self.changes) + 1
        for piece in shown[p:q]:
            if self.outright(piece):
                self.take_out(piece)
            else:
                piece.deletions = [m]
        return self.enter(2)

    def paint(self, p, q, k, v):
        shown = self.shown()
        if not (0 <= p and p < q and q <= len(shown)):
            return -1
        if k not in (0, 1, 2, 3) or v < 0 or v > 99:
            return -2
        m = len(self.changes) + 1
        for piece in shown[p:q]:
            if self.outright(piece):
                piece.pending = [entry for entry in piece.pending if entry[1] != k]
                piece.look[k] = v
            elif piece.shown_look()[k] != v:
                piece.pending.append((m, k, v))
        return self.enter(3)

    def move(self, p, q, r):
        shown = self.shown()
        end = len(shown) - 1
        if not (0 <= p and p < q and q <= end and 0 <= r and r <= end):
            return -1
        if p <= r and r <= q:
            return -3
        m = len(self.changes) + 1
        coming = []
        for piece in shown[p:q]:
            if self.outright(piece):
                self.take_out(piece)
                coming.append(piece)
            else:
                copy = piece.copy()
                copy.insertions.append(m)
                coming.append(copy)
                piece.deletions = [m]
        self.before(shown[r], coming)
        return self.enter(4)

    def marks(self):
        counts = [0] * (len(self.changes) + 1)
        for piece in self.row:
            for c in piece.marks():
                counts[c] += 1
        return counts

    def give(self, v, c):
        before = self.marks()
        self.row = [piece for piece in self.row if stays_after(piece, v, c)]
        now = self.marks()
        for d in range(1, len(self.changes) + 1):
            column = 2 if d != c else 1 - v
            self.tallies[d - 1][column] += before[d] - now[d]

    def judge_all(self, v, selected):
        before = self.marks()
        pieces = len(self.row)
        for c in sorted(set(selected)):
            self.give(v, c)
        stood = len([c for c in set(selected) if before[c] > 0])
        return [stood, pieces - len(self.row), sum(before) - sum(self.marks())]

    def judge(self, v, c):
        if v not in (0, 1):
            return -2
        if c < 1 or c > len(self.changes):
            return -4
        return self.judge_all(v, [c])

    def judgeby(self, v, a, k, from_time, to_time):
        if v not in (0, 1) or a < 0 or a > 99 or k < 0 or k > 4:
            return -2
        selected = []
        for index, (author, time, kind) in enumerate(self.changes):
            if a in (0, author) and k in (0, kind) and time >= from_time and time <= to_time:
                selected.append(index + 1)
        return self.judge_all(v, selected)

    def judgelist(self, v, changes):
        if v not in (0, 1):
            return -2
        if any(c < 1 or c > len(self.changes) for c in changes):
            return -4
        return self.judge_all(v, changes)

    def size(self):
        bare = [piece for piece in self.row if not piece.insertions]
        return [len(self.shown()), len(self.row), len(bare), len(self.changes)]

    def state(self):
        return (
            [piece.told() for piece in self.row],
            self.changes,
            [tuple(tally) for tally in self.tallies],
            self.now[0],
            self.now[1],
            self.tracking,
        )
