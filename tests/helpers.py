"""What the tests have in common: a session that makes calls one by one."""

import unittest

from trackverdict.text import Text
from trackverdict.verdicts import answer_call

PLAIN = (0, 0, 0, 0)


def piece(sign, insertions=(), deletions=(), pending=(), look=PLAIN):
    """A piece as Session.pieces tells it."""
    code = ord(sign) if isinstance(sign, str) else sign
    return (code, tuple(look), tuple(insertions), tuple(deletions), tuple(pending))


END = piece(10)


def codes(signs):
    return [ord(sign) for sign in signs] if isinstance(signs, str) else list(signs)


class Session:
    """One text; each call answers its one number, or a list if there are several."""

    def __init__(self):
        self.text = Text()

    def call(self, number, numbers, listed=()):
        answer = answer_call(self.text, number, list(numbers), list(listed))
        return answer[0] if len(answer) == 1 else answer

    def author(self, a):
        return self.call(0, [a])

    def clock(self, t):
        return self.call(1, [t])

    def track(self, on):
        return self.call(2, [on])

    def put(self, p, signs):
        return self.call(3, [p], codes(signs))

    def cut(self, p, q):
        return self.call(4, [p, q])

    def paint(self, p, q, k, v):
        return self.call(5, [p, q, k, v])

    def move(self, p, q, r):
        return self.call(6, [p, q, r])

    def judge(self, v, c):
        return self.call(7, [v, c])

    def judgeby(self, v, a, k, from_time, to_time):
        return self.call(8, [v, a, k, from_time, to_time])

    def judgelist(self, v, changes):
        return self.call(9, [v], changes)

    def judgetouching(self, v, i, j):
        return self.call(10, [v, i, j])

    def judgepart(self, v, i, j):
        return self.call(11, [v, i, j])

    def falls(self, v, c):
        return self.call(12, [v, c])

    def spots(self, c):
        return self.call(13, [c])

    def standing(self):
        return self.call(14, [])

    def fate(self, c):
        return self.call(15, [c])

    def what(self, changes):
        return self.call(16, [], changes)

    def row(self):
        return self.call(17, [])

    def people(self):
        return self.call(18, [])

    def size(self):
        return self.call(19, [])

    def pieces(self):
        """The row as it is kept, a tuple for each piece: no call is made for it."""
        return [
            (sign, look, run.insertions, run.deletions, run.pending)
            for run in self.text.row
            for sign, look in zip(run.signs, run.looks, strict=True)
        ]

    def signs(self):
        """The signs of the row, with those not shown in brackets and an end as '|'."""
        told = ""
        for sign, _, _, deletions, _ in self.pieces():
            letter = "|" if sign == 10 else chr(sign)
            told += f"[{letter}]" if deletions else letter
        return told

    def changes(self):
        return [(change.author, change.time, change.kind) for change in self.text.changes]

    def tallies(self, c):
        change = self.text.changes[c - 1]
        return (change.accepted, change.rejected, change.fallen)

    def state(self):
        count = len(self.text.changes)
        return (
            self.pieces(),
            self.changes(),
            [self.tallies(c) for c in range(1, count + 1)],
            self.text.author,
            self.text.time,
            self.text.tracking,
        )


def play_example(session):
    """The document's example up to its row: a, x and [y] by change 1, [y] and [b] cut by change 2, c, the last end."""
    session.put(0, "abc")
    session.track(1)
    session.author(2)
    session.put(1, "xy")
    session.author(3)
    session.cut(2, 4)


class SessionCase(unittest.TestCase):
    def setUp(self):
        self.session = Session()

    def refused(self, number, call, *arguments):
        """The call is refused with the number and leaves everything as it was."""
        before = self.session.state()
        self.assertEqual(call(*arguments), number, arguments)
        self.assertEqual(self.session.state(), before, arguments)
