"""The interface: trackverdict.verdicts.answers(calls)."""

import unittest

import trackverdict.verdicts
from trackverdict.verdicts import answers

EXAMPLE = [3, 0, 3, 97, 98, 99, 2, 1, 0, 2, 3, 1, 2, 120, 121, 0, 3, 4, 2, 4, 7, 0, 1, 19]
EXAMPLE_ANSWERS = [1, 0, 1, 0, 1, 0, 1, 1, 1, 0, 1, 2, 3, 1, 2, 3, 4, 3, 4, 4, 2]


class Answers(unittest.TestCase):
    def test_each_call_by_its_number(self):
        told = [
            ([0, 7], [1, 0]),
            ([1, 5], [1, 0]),
            ([3, 0, 4, 97, 98, 99, 100], [1, 0]),
            ([2, 1], [1, 0]),
            ([3, 4, 2, 120, 10], [1, 1]),
            ([4, 0, 1], [1, 2]),
            ([5, 0, 2, 3, 9], [1, 3]),
            ([6, 0, 1, 2], [1, 4]),
            ([19], [4, 6, 8, 5, 4]),
            ([7, 1, 2], [3, 1, 1, 1]),
            ([8, 0, 7, 3, 5, 5], [3, 1, 0, 3]),
            ([9, 1, 2, 1, 4], [3, 2, 1, 4]),
            ([9, 1, 0], [3, 0, 0, 0]),
            ([19], [4, 6, 6, 6, 4]),
        ]
        calls = []
        expected = []
        for call, answer in told:
            calls += call
            expected += answer
            self.assertEqual(answers(calls), expected)

    def test_the_example_of_the_document(self):
        self.assertEqual(answers(EXAMPLE), EXAMPLE_ANSWERS)

    def test_a_refusal_is_its_number_alone_and_the_next_call_is_read(self):
        refused = [0, 0, 1, -1, 2, 5, 3, 9, 1, 97, 3, 0, 1, 5, 3, 0, 0, 4, 0, 1, 5, 0, 9, 0, 0, 6, 0, 1, 3]
        self.assertEqual(answers(refused), [1, -2, 1, -2, 1, -2, 1, -1, 1, -2, 1, -2, 1, -1, 1, -1, 1, -1])
        refused = [7, 2, 0, 7, 0, 1, 8, 0, 100, 0, 0, 0, 9, 0, 2, 1, 2, 9, 3, 1, 5, 19]
        self.assertEqual(answers(refused), [1, -2, 1, -4, 1, -2, 1, -4, 1, -2, 4, 1, 1, 1, 0])

    def test_one_call(self):
        self.assertEqual(answers([19]), [4, 1, 1, 1, 0])

    def test_the_list_handed_in_is_the_same_afterwards(self):
        calls = list(EXAMPLE)
        answers(calls)
        self.assertEqual(calls, EXAMPLE)

    def test_nothing_is_kept_from_one_time_to_the_next(self):
        first = answers(EXAMPLE)
        first.append(5)
        self.assertEqual(answers([19]), [4, 1, 1, 1, 0])
        self.assertEqual(answers([3, 0, 1, 97]), [1, 0])
        self.assertEqual(answers([7, 1, 1]), [1, -4])
        self.assertEqual(answers(EXAMPLE), EXAMPLE_ANSWERS)

    def test_whole_numbers_in_a_list(self):
        told = trackverdict.verdicts.answers(EXAMPLE)
        self.assertIs(type(told), list)
        self.assertTrue(all(type(number) is int for number in told))


class LongLines(unittest.TestCase):
    def test_four_hundred_calls_upon_a_long_text(self):
        """A long text that two authors move to and fro: each move leaves a hidden copy of it all."""
        calls = []
        for _ in range(7):
            calls += [3, 0, 2000] + [97] * 2000
        calls += [2, 1, 3, 14000, 1, 98]
        moves = 190
        for turn in range(moves):
            calls += [0, 2 + turn % 2]
            calls += [6, 0, 14000, 14001] if turn % 2 == 0 else [6, 1, 14001, 0]
        calls += [19, 8, 1, 0, 4, 0, 0, 19]
        self.assertLessEqual(len(calls), 16000)
        told = answers(calls)
        shown = 14002
        marks = sum(14000 * (k + (1 if k < moves else 0)) for k in range(moves + 1))
        pieces = 14000 * moves
        self.assertEqual(
            told[-14:],
            [4, shown, shown + pieces, 14001, moves + 1]
            + [3, moves, pieces, marks]
            + [4, shown, shown, shown - 1, moves + 1],
        )


if __name__ == "__main__":
    unittest.main()
