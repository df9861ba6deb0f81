"""The interface: trackverdict.verdicts.answers(calls)."""

import unittest

import trackverdict.verdicts
from trackverdict.verdicts import answers

EXAMPLE = [3, 0, 3, 97, 98, 99, 2, 1, 0, 2, 3, 1, 2, 120, 121, 0, 3, 4, 2, 4]
EXAMPLE_ANSWERS = [1, 0, 1, 0, 1, 0, 1, 1, 1, 0, 1, 2]
A_BEFORE = [97, 0, 0, 0, 0, 0, 0, 0]
X_PUT = [120, 0, 0, 0, 0, 1, 1, 0, 0]
Y_PUT_AND_CUT = [121, 0, 0, 0, 0, 1, 1, 1, 2, 0]
B_CUT = [98, 0, 0, 0, 0, 0, 1, 2, 0]
C_AND_END = [99, 0, 0, 0, 0, 0, 0, 0, 10, 0, 0, 0, 0, 0, 0, 0]

# Each call with its answer, one upon the other; behind the move the row is
# [a], [b], c, b, d, x, an end, the last end.
ALL_CALLS = [
    ([0, 7], [1, 0]),
    ([1, 5], [1, 0]),
    ([3, 0, 4, 97, 98, 99, 100], [1, 0]),
    ([2, 1], [1, 0]),
    ([3, 4, 2, 120, 10], [1, 1]),
    ([4, 0, 1], [1, 2]),
    ([5, 0, 2, 3, 9], [1, 3]),
    ([6, 0, 1, 2], [1, 4]),
    ([19], [4, 6, 8, 5, 4]),
    ([14], [5, 4, 1, 2, 3, 4]),
    ([18], [6, 1, 7, 4, 3, 2, 3]),
    ([13, 4], [7, 2, 1, 1, 2, 3, 1, 1]),
    ([12, 0, 4], [1, 0]),
    ([12, 0, 1], [1, 0]),
    ([15, 3], [7, 7, 5, 3, 3, 0, 0, 0]),
    ([16, 2, 2, 4], [21, 4, 99, 0, 0, 0, 0, 98, 0, 0, 0, 0, 100, 0, 0, 0, 0, 10, 0, 0, 0, 0]),
    (
        [16, 0],
        [26, 5, 97, 0, 0, 0, 0, 98, 0, 0, 0, 0, 99, 0, 0, 0, 0, 100, 0, 0, 0, 0, 10, 0, 0, 0, 0],
    ),
    (
        [17],
        [79, 8]
        + [97, 0, 0, 0, 0, 0, 1, 2, 0]
        + [98, 0, 0, 0, 0, 0, 1, 4, 1, 3, 3, 9]
        + [99, 0, 0, 0, 0, 0, 0, 1, 3, 3, 9]
        + [98, 0, 0, 0, 0, 1, 4, 0, 1, 3, 3, 9]
        + [100, 0, 0, 0, 0, 0, 0, 0]
        + [120, 0, 0, 0, 0, 1, 1, 0, 0]
        + [10, 0, 0, 0, 0, 1, 1, 0, 0]
        + [10, 0, 0, 0, 0, 0, 0, 0],
    ),
    ([11, 1, 2, 3], [3, 1, 0, 1]),
    ([10, 0, 3, 4], [3, 2, 1, 4]),
    ([7, 1, 2], [3, 1, 1, 1]),
    ([8, 0, 7, 1, 5, 5], [3, 1, 2, 2]),
    ([9, 1, 2, 1, 4], [3, 0, 0, 0]),
    ([9, 1, 0], [3, 0, 0, 0]),
    ([14], [1, 0]),
    ([18], [1, 0]),
    ([13, 4], [1, 0]),
    ([15, 3], [7, 7, 5, 3, 0, 1, 2, 0]),
    (
        [17],
        [33, 4]
        + [98, 0, 0, 0, 0, 0, 0, 0]
        + [99, 0, 0, 0, 9, 0, 0, 0]
        + [100, 0, 0, 0, 0, 0, 0, 0]
        + [10, 0, 0, 0, 0, 0, 0, 0],
    ),
    ([19], [4, 4, 4, 4, 4]),
]


class Answers(unittest.TestCase):
    def test_each_call_by_its_number(self):
        calls = []
        expected = []
        for call, answer in ALL_CALLS:
            calls += call
            expected += answer
            self.assertEqual(answers(calls), expected)
        self.assertEqual(sorted({call[0] for call, _ in ALL_CALLS}), list(range(20)))

    def test_the_example_of_the_document(self):
        calls = EXAMPLE + [17, 12, 0, 1, 7, 0, 1, 15, 1, 15, 2, 17]
        row = [6] + A_BEFORE + X_PUT + Y_PUT_AND_CUT + B_CUT + C_AND_END
        row_after = [4] + A_BEFORE + B_CUT + C_AND_END
        self.assertEqual(
            answers(calls),
            EXAMPLE_ANSWERS
            + [len(row)] + row
            + [1, 0]
            + [3, 1, 2, 3]
            + [7, 2, 0, 1, 0, 0, 2, 0]
            + [7, 3, 0, 2, 1, 0, 0, 1]
            + [len(row_after)] + row_after,
        )

    def test_the_other_way_of_the_example(self):
        row = [5] + A_BEFORE + X_PUT + B_CUT + C_AND_END
        self.assertEqual(
            answers(EXAMPLE + [11, 1, 2, 3, 17]), EXAMPLE_ANSWERS + [3, 2, 1, 2] + [len(row)] + row
        )

    def test_a_refusal_is_its_number_alone_and_the_next_call_is_read(self):
        refused = [0, 0, 1, -1, 2, 5, 3, 9, 1, 97, 3, 0, 1, 5, 3, 0, 0, 4, 0, 1, 5, 0, 9, 0, 0, 6, 0, 1, 3]
        self.assertEqual(answers(refused), [1, -2, 1, -2, 1, -2, 1, -1, 1, -2, 1, -2, 1, -1, 1, -1, 1, -1])
        refused = [7, 2, 0, 7, 0, 1, 8, 0, 100, 0, 0, 0, 9, 0, 2, 1, 2, 9, 3, 1, 5, 19]
        self.assertEqual(answers(refused), [1, -2, 1, -4, 1, -2, 1, -4, 1, -2, 4, 1, 1, 1, 0])
        refused = [10, 2, 0, 0, 10, 1, 0, 2, 11, 2, 0, 0, 11, 0, 1, 1, 12, 2, 1, 12, 0, 1, 13, 1, 15, 1, 16, 2, 1, 2, 19]
        self.assertEqual(
            answers(refused), [1, -2, 1, -1, 1, -2, 1, -1, 1, -2, 1, -4, 1, -4, 1, -4, 1, -4, 4, 1, 1, 1, 0]
        )

    def test_one_call(self):
        self.assertEqual(answers([19]), [4, 1, 1, 1, 0])

    def test_the_list_handed_in_is_the_same_afterwards(self):
        calls = [number for call, _ in ALL_CALLS for number in call]
        same = list(calls)
        answers(calls)
        self.assertEqual(calls, same)

    def test_nothing_is_kept_from_one_time_to_the_next(self):
        first = answers(EXAMPLE)
        first.append(5)
        self.assertEqual(answers([19]), [4, 1, 1, 1, 0])
        self.assertEqual(answers([3, 0, 1, 97]), [1, 0])
        self.assertEqual(answers([7, 1, 1]), [1, -4])
        self.assertEqual(answers(EXAMPLE), EXAMPLE_ANSWERS)

    def test_whole_numbers_in_a_list(self):
        told = trackverdict.verdicts.answers([number for call, _ in ALL_CALLS for number in call])
        self.assertIs(type(told), list)
        self.assertTrue(all(type(number) is int for number in told))

    def test_numbers_at_the_ends_of_their_range(self):
        huge = 10 ** 18
        calls = EXAMPLE + [1, huge, 8, 1, 0, 0, -huge, huge, 15, 1, 13, -huge, 12, 1, huge, 16, 1, -huge]
        self.assertEqual(
            answers(calls),
            EXAMPLE_ANSWERS + [1, 0, 3, 2, 2, 4, 7, 2, 0, 1, 0, 2, 0, 0, 1, -4, 1, -4, 1, -4],
        )


class LongLines(unittest.TestCase):
    def test_four_hundred_calls_upon_a_long_text(self):
        """A long text that two authors move to and fro: each move leaves a hidden copy of it all."""
        calls = []
        for _ in range(7):
            calls += [3, 0, 2000] + [97] * 2000
        calls += [2, 1, 3, 14000, 1, 98]
        moves = 190
        for turn in range(moves):
            calls += [0, 2 + turn % 2]
            calls += [6, 0, 14000, 14001] if turn % 2 == 0 else [6, 1, 14001, 0]
        calls += [19, 8, 1, 0, 4, 0, 0, 19]
        self.assertLessEqual(len(calls), 16000)
        told = answers(calls)
        shown = 14002
        marks = sum(14000 * (k + (1 if k < moves else 0)) for k in range(moves + 1))
        pieces = 14000 * moves
        self.assertEqual(
            told[-14:],
            [4, shown, shown + pieces, 14001, moves + 1]
            + [3, moves, pieces, marks]
            + [4, shown, shown, shown - 1, moves + 1],
        )

    def test_four_hundred_calls_of_every_kind(self):
        calls = []
        for _ in range(13):
            calls += [number for call, _ in ALL_CALLS for number in call]
        self.assertEqual(len(ALL_CALLS) * 13, 390)
        calls += [19] * 10
        told = answers(calls)
        at = 0
        for _ in range(400):
            at += 1 + told[at]
        self.assertEqual(at, len(told))
        first = [number for _, answer in ALL_CALLS for number in answer]
        self.assertEqual(told[:len(first)], first)
        self.assertEqual(told[-50:], told[-5:] * 10)

    def test_long_answers(self):
        """Ends have another look than the signs between them."""
        signs = [97, 10] * 1000
        calls = [5, 0, 1, 0, 7, 3, 0, 2000] + signs + [2, 1, 3, 2000, 1, 98, 0, 2, 6, 0, 2000, 2001]
        calls += [17, 16, 1, 1, 16, 2, 1, 2, 13, 2, 18, 14] * 60
        told = answers(calls)
        hidden = [97, 0, 0, 0, 0, 0, 1, 2, 0, 10, 7, 0, 0, 0, 0, 1, 2, 0] * 1000
        shown = [97, 0, 0, 0, 0, 1, 2, 0, 0, 10, 7, 0, 0, 0, 1, 2, 0, 0] * 1000
        put_last = [98, 0, 0, 0, 0, 1, 1, 0, 0]
        row = [4002] + hidden + put_last + shown + [10, 7, 0, 0, 0, 0, 0, 0]
        moved = [97, 0, 0, 0, 0, 10, 7, 0, 0, 0] * 1000
        before = [2002] + moved + [98, 0, 0, 0, 0] + [10, 7, 0, 0, 0]
        after = [2002] + [98, 0, 0, 0, 0] + moved + [10, 7, 0, 0, 0]
        once = [len(row)] + row + [len(before)] + before + [len(after)] + after
        once += [7, 2, 0, 2000, 2, 2001, 2000, 1] + [11, 2, 1, 1, 1, 0, 0, 2, 1, 2000, 2000, 0] + [3, 2, 1, 2]
        self.assertEqual(told[:14], [1, 0, 1, 0, 1, 0, 1, 1, 1, 0, 1, 2, len(row), 4002])
        self.assertEqual(told[12:], once * 60)


if __name__ == "__main__":
    unittest.main()
