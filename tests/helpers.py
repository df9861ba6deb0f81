"""What the tests have in common: a session that makes calls one by one."""

import unittest

from trackverdict.text import Text
from trackverdict.verdicts import answer_call

PLAIN = (0, 0, 0, 0)


def piece(sign, insertions=(), deletions=(), pending=(), look=PLAIN):
    """A piece as Session.row tells it."""
    code = ord(sign) if isinstance(sign, str) else sign
    return (code, tuple(look), tuple(insertions), tuple(deletions), tuple(pending))


END = piece(10)


def codes(signs):
    return [ord(sign) for sign in signs] if isinstance(signs, str) else list(signs)


class Session:
    """One text; each call answers its one number, or a list if there are several."""

    def __init__(self):
        self.text = Text()

    def call(self, number, numbers, listed=()):
        answer = answer_call(self.text, number, list(numbers), list(listed))
        return answer[0] if len(answer) == 1 else answer

    def author(self, a):
        return self.call(0, [a])

    def clock(self, t):
        return self.call(1, [t])

    def track(self, on):
        return self.call(2, [on])

    def put(self, p, signs):
        return self.call(3, [p], codes(signs))

    def cut(self, p, q):
        return self.call(4, [p, q])

    def paint(self, p, q, k, v):
        return self.call(5, [p, q, k, v])

    def move(self, p, q, r):
        return self.call(6, [p, q, r])

    def judge(self, v, c):
        return self.call(7, [v, c])

    def judgeby(self, v, a, k, from_time, to_time):
        return self.call(8, [v, a, k, from_time, to_time])

    def judgelist(self, v, changes):
        return self.call(9, [v], changes)

    def size(self):
        return self.call(19, [])

    def row(self):
        return [
            (sign, run.look, run.insertions, run.deletions, run.pending)
            for run in self.text.row
            for sign in run.signs
        ]

    def signs(self):
        """The signs of the row, with those not shown in brackets and an end as '|'."""
        told = ""
        for sign, _, _, deletions, _ in self.row():
            letter = "|" if sign == 10 else chr(sign)
            told += f"[{letter}]" if deletions else letter
        return told

    def changes(self):
        return [(change.author, change.time, change.kind) for change in self.text.changes]

    def tallies(self, c):
        change = self.text.changes[c - 1]
        return (change.accepted, change.rejected, change.fallen)

    def state(self):
        count = len(self.text.changes)
        return (
            self.row(),
            self.changes(),
            [self.tallies(c) for c in range(1, count + 1)],
            self.text.author,
            self.text.time,
            self.text.tracking,
        )


class SessionCase(unittest.TestCase):
    def setUp(self):
        self.session = Session()

    def refused(self, number, call, *arguments):
        """The call is refused with the number and leaves everything as it was."""
        before = self.session.state()
        self.assertEqual(call(*arguments), number, arguments)
        self.assertEqual(self.session.state(), before, arguments)
