"""Made-up lines of calls, on the program and on the plain model of the document."""

import random
import unittest

from helpers import Session
from model import Model
from trackverdict.verdicts import answers

NAMES = ("author", "clock", "track", "put", "cut", "paint", "move", "judge", "judgeby", "judgelist", "size")
WEIGHTS = (6, 2, 2, 6, 5, 6, 6, 2, 1, 1, 1)
NUMBERS = {name: number for number, name in enumerate(NAMES)}
NUMBERS["size"] = 19


class Maker:
    def __init__(self, seed):
        self.random = random.Random(seed)

    def pick(self, low, high):
        return self.random.randint(low, high)

    def stretch(self, shown):
        p = self.pick(-1 if self.pick(0, 30) == 0 else 0, shown)
        return [p, min(p + self.pick(0 if self.pick(0, 10) == 0 else 1, 6), shown + self.pick(0, 1))]

    def arguments(self, name, model):
        shown = len(model.shown())
        changes = len(model.changes)
        if name == "author":
            return [self.pick(1, 4) if self.pick(0, 20) else self.pick(-1, 101)]
        if name == "clock":
            return [model.now[1] + self.pick(-1, 2)]
        if name == "track":
            return [self.pick(0, 3) if self.pick(0, 20) == 0 else min(1, self.pick(0, 5))]
        if name == "put":
            signs = [self.random.choice((10, 97, 98, 99)) for _ in range(self.pick(1, 6))]
            if self.pick(0, 30) == 0:
                signs = self.random.choice(([], [11], [97, 127]))
            return [self.pick(0, shown - 1) if self.pick(0, 20) else self.pick(-2, shown + 1), signs]
        if name == "cut":
            return self.stretch(shown)
        if name == "paint":
            return self.stretch(shown) + [self.pick(0, 3) // 2 if self.pick(0, 30) else 4, self.pick(0, 3)]
        if name == "move":
            return self.stretch(shown) + [self.pick(-1 if self.pick(0, 20) == 0 else 0, shown)]
        verdict = self.pick(0, 1) if self.pick(0, 20) else self.pick(-1, 2)
        if name == "judge":
            return [verdict, self.pick(1, max(1, changes)) if self.pick(0, 20) else self.pick(-1, changes + 1)]
        if name == "judgeby":
            time = self.pick(0, model.now[1])
            return [verdict, self.pick(0, 4), self.pick(0, 4), time, time + self.pick(-1, 5)]
        if name == "judgelist":
            low = 0 if self.pick(0, 20) == 0 else 1
            return [verdict, [self.pick(low, max(1, changes)) for _ in range(self.pick(0, 5))]]
        return []


def flat(name, arguments):
    numbers = [NUMBERS[name]]
    for argument in arguments:
        if isinstance(argument, list):
            numbers.append(len(argument))
            numbers.extend(argument)
        else:
            numbers.append(argument)
    return numbers


class AgainstModel(unittest.TestCase):
    def run_line(self, seed, length):
        maker = Maker(seed)
        model = Model()
        session = Session()
        calls = []
        expected = []
        for _ in range(length):
            name = maker.random.choices(NAMES, WEIGHTS)[0]
            arguments = maker.arguments(name, model)
            answer = getattr(model, name)(*arguments)
            self.assertEqual(getattr(session, name)(*arguments), answer, (seed, name, arguments))
            self.assertEqual(session.state(), model.state(), (seed, name, arguments))
            calls.extend(flat(name, arguments))
            numbers = answer if isinstance(answer, list) else [answer]
            expected.extend([len(numbers)] + numbers)
        self.assertEqual(answers(calls), expected, seed)

    def test_short_lines(self):
        for seed in range(600):
            self.run_line(seed, 40)

    def test_long_lines(self):
        for seed in range(1000, 1015):
            self.run_line(seed, 400)


if __name__ == "__main__":
    unittest.main()
