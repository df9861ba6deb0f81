"""Made-up lines of calls, on the program and on the plain model of the document."""

import random
import unittest

from helpers import Session
from model import Model
from trackverdict.verdicts import answers

# In the order of their numbers.
NAMES = (
    "author", "clock", "track", "put", "cut", "paint", "move",
    "judge", "judgeby", "judgelist", "judgetouching", "judgepart",
    "falls", "spots", "standing", "fate", "what", "row", "people", "size",
)
WEIGHTS = (12, 4, 4, 12, 10, 12, 12, 3, 2, 2, 2, 5, 3, 3, 2, 3, 3, 2, 2, 2)


class Maker:
    def __init__(self, seed):
        self.random = random.Random(seed)

    def pick(self, low, high):
        return self.random.randint(low, high)

    def rarely(self):
        return self.pick(0, 20) == 0

    def stretch(self, shown):
        p = self.pick(-1 if self.rarely() else 0, shown)
        return [p, min(p + self.pick(0 if self.rarely() else 1, 6), shown + self.pick(0, 1))]

    def verdict(self):
        return self.pick(-1, 2) if self.rarely() else self.pick(0, 1)

    def change(self, changes):
        return self.pick(-1, changes + 1) if self.rarely() else self.pick(1, max(1, changes))

    def change_list(self, changes):
        low = 0 if self.rarely() else 1
        return [self.pick(low, max(1, changes)) for _ in range(self.pick(0, max(5, changes // 2)))]

    def arguments(self, name, model):
        if name in ("author", "clock", "track", "put", "cut", "paint", "move"):
            return self.command_arguments(name, model)
        changes = len(model.changes)
        if name in ("judge", "falls"):
            return [self.verdict(), self.change(changes)]
        if name == "judgeby":
            time = self.pick(0, model.now[1])
            return [self.verdict(), self.pick(0, 4), self.pick(0, 4), time, time + self.pick(-1, 5)]
        if name == "judgelist":
            return [self.verdict(), self.change_list(changes)[:5]]
        if name in ("judgetouching", "judgepart"):
            return [self.verdict()] + self.stretch(len(model.pieces))
        if name in ("spots", "fate"):
            return [self.change(changes)]
        if name == "what":
            return [self.change_list(changes)]
        return []

    def command_arguments(self, name, model):
        shown = len(model.shown())
        if name == "author":
            return [self.pick(-1, 101) if self.rarely() else self.pick(1, 4)]
        if name == "clock":
            return [model.now[1] + self.pick(-1, 2)]
        if name == "track":
            return [self.pick(0, 3) if self.rarely() else min(1, self.pick(0, 5))]
        if name == "put":
            signs = [self.random.choice((10, 97, 98, 99)) for _ in range(self.pick(1, 6))]
            if self.rarely():
                signs = self.random.choice(([], [11], [97, 127]))
            return [self.pick(-2, shown + 1) if self.rarely() else self.pick(0, shown - 1), signs]
        if name == "cut":
            return self.stretch(shown)
        if name == "paint":
            return self.stretch(shown) + [4 if self.rarely() else self.pick(0, 3) // 2, self.pick(0, 3)]
        return self.stretch(shown) + [self.pick(-1 if self.rarely() else 0, shown)]


def flat(name, arguments):
    numbers = [NAMES.index(name)]
    for argument in arguments:
        if isinstance(argument, list):
            numbers.append(len(argument))
            numbers.extend(argument)
        else:
            numbers.append(argument)
    return numbers


def as_list(answer):
    return answer if isinstance(answer, list) else [answer]


class AgainstModel(unittest.TestCase):
    def run_line(self, seed, length):
        """Answers the maker and the session at the line's end, and the calls that led there."""
        maker = Maker(seed)
        model = Model()
        session = Session()
        calls = []
        expected = []
        for _ in range(length):
            name = maker.random.choices(NAMES, WEIGHTS)[0]
            arguments = maker.arguments(name, model)
            numbers = as_list(getattr(model, name)(*arguments))
            told = as_list(getattr(session, name)(*arguments))
            self.assertEqual(told, numbers, (seed, name, arguments))
            self.assertEqual(session.state(), model.state(), (seed, name, arguments))
            calls.extend(flat(name, arguments))
            expected.extend([len(numbers)] + numbers)
        self.assertEqual(answers(calls), expected, seed)
        return maker, session

    def test_short_lines(self):
        for seed in range(600):
            self.run_line(seed, 40)

    def test_long_lines(self):
        for seed in range(1000, 1015):
            self.run_line(seed, 400)

    def test_what_tells_the_text_that_verdicts_in_any_order_make(self):
        for seed in range(2000, 2200):
            maker, session = self.run_line(seed, 60)
            changes = list(range(1, session.size()[3] + 1))
            accepted = [c for c in changes if maker.pick(0, 1)]
            told = session.what(accepted)
            maker.random.shuffle(changes)
            for c in changes:
                session.judge(1 if c in accepted else 0, c)
            self.assertEqual(session.standing(), 0, seed)
            text = [number for sign, look, _, _, _ in session.pieces() for number in (sign,) + look]
            self.assertEqual(told, [len(session.pieces())] + text, seed)


if __name__ == "__main__":
    unittest.main()
