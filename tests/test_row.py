"""Points 20 and 21: row and people; and that calls which only tell change nothing."""

import unittest

from helpers import SessionCase, play_example

HUGE = 10 ** 18


class Row(SessionCase):
    def test_the_new_object(self):
        self.assertEqual(self.session.row(), [1, 10, 0, 0, 0, 0, 0, 0, 0])

    def test_the_example_of_the_document(self):
        play_example(self.session)
        self.assertEqual(
            self.session.row(),
            [6]
            + [97, 0, 0, 0, 0, 0, 0, 0]
            + [120, 0, 0, 0, 0, 1, 1, 0, 0]
            + [121, 0, 0, 0, 0, 1, 1, 1, 2, 0]
            + [98, 0, 0, 0, 0, 0, 1, 2, 0]
            + [99, 0, 0, 0, 0, 0, 0, 0]
            + [10, 0, 0, 0, 0, 0, 0, 0],
        )

    def test_own_looks_and_several_marks_in_their_order(self):
        session = self.session
        session.track(1)
        session.put(0, "ab")
        for k in range(4):
            session.paint(0, 1, k, 11 + k)
        session.author(2)
        session.paint(0, 1, 3, 99)
        session.paint(0, 1, 0, 98)
        session.paint(0, 1, 3, 97)
        session.move(0, 1, 2)
        pending = [3, 2, 3, 99, 3, 0, 98, 4, 3, 97]
        self.assertEqual(
            session.row(),
            [4]
            + [97, 11, 12, 13, 14, 1, 1, 1, 5] + pending
            + [98, 0, 0, 0, 0, 1, 1, 0, 0]
            + [97, 11, 12, 13, 14, 2, 1, 5, 0] + pending
            + [10, 0, 0, 0, 0, 0, 0, 0],
        )

    def test_own_looks_that_differ_from_piece_to_piece(self):
        session = self.session
        session.put(0, "ab")
        session.paint(0, 1, 0, 5)
        session.paint(2, 3, 1, 6)
        session.track(1)
        session.put(1, "x\ny")
        self.assertEqual(
            session.row(),
            [6]
            + [97, 5, 0, 0, 0, 0, 0, 0]
            + [120, 5, 0, 0, 0, 1, 1, 0, 0]
            + [10, 0, 6, 0, 0, 1, 1, 0, 0]
            + [121, 5, 0, 0, 0, 1, 1, 0, 0]
            + [98, 0, 0, 0, 0, 0, 0, 0]
            + [10, 0, 6, 0, 0, 0, 0, 0],
        )

    def test_a_paint_marks_the_pieces_that_show_another_value_alone(self):
        session = self.session
        session.put(0, "ab")
        session.paint(0, 1, 0, 5)
        session.put(1, "x")
        session.put(0, "y")
        session.track(1)
        self.assertEqual(session.paint(0, 5, 0, 5), 1)
        self.assertEqual(
            session.row(),
            [5]
            + [121, 0, 0, 0, 0, 0, 0, 1, 1, 0, 5]
            + [97, 5, 0, 0, 0, 0, 0, 0]
            + [120, 5, 0, 0, 0, 0, 0, 0]
            + [98, 0, 0, 0, 0, 0, 0, 1, 1, 0, 5]
            + [10, 0, 0, 0, 0, 0, 0, 1, 1, 0, 5],
        )


class People(SessionCase):
    def test_nobody_at_first(self):
        self.assertEqual(self.session.people(), 0)
        self.session.author(5)
        self.session.put(0, "a")
        self.assertEqual(self.session.people(), 0)

    def test_authors_rising_whatever_the_order_of_their_changes(self):
        session = self.session
        session.put(0, "abcd")
        session.track(1)
        session.author(99)
        session.put(0, "xyz")
        session.author(1)
        session.paint(0, 4, 0, 5)
        session.author(30)
        session.cut(3, 5)
        self.assertEqual(session.signs(), "xyz[a][b]cd|")
        self.assertEqual(session.people(), [3, 1, 1, 0, 0, 4, 30, 1, 0, 2, 0, 99, 1, 3, 0, 0])

    def test_all_marks_of_one_author_come_together(self):
        session = self.session
        session.put(0, "abcdef")
        session.track(1)
        session.author(4)
        session.put(0, "xy")
        session.cut(2, 3)
        session.paint(2, 5, 0, 5)
        session.paint(3, 4, 1, 5)
        session.move(5, 6, 0)
        self.assertEqual(session.signs(), "exy[a]bcd[e]f|")
        self.assertEqual(session.people(), [1, 4, 5, 3, 2, 4])

    def test_a_change_that_no_longer_stands_counts_no_more(self):
        session = self.session
        session.track(1)
        session.author(2)
        session.put(0, "ab")
        session.put(0, "c")
        session.author(3)
        session.put(0, "d")
        self.assertEqual(session.people(), [2, 2, 2, 3, 0, 0, 3, 1, 1, 0, 0])
        session.judge(1, 1)
        self.assertEqual(session.people(), [2, 2, 1, 1, 0, 0, 3, 1, 1, 0, 0])
        session.judge(0, 2)
        self.assertEqual(session.people(), [1, 3, 1, 1, 0, 0])

    def test_a_moved_piece_has_several_insertions(self):
        session = self.session
        session.track(1)
        session.put(0, "ab")
        session.author(2)
        session.move(0, 1, 2)
        self.assertEqual(session.people(), [2, 1, 1, 3, 0, 0, 2, 1, 1, 1, 0])


class OnlyTelling(SessionCase):
    def setUp(self):
        super().setUp()
        session = self.session
        session.put(0, "abcd")
        session.track(1)
        session.clock(3)
        session.put(1, "xy")
        session.author(2)
        session.cut(0, 2)
        session.paint(0, 3, 0, 5)
        session.move(1, 2, 4)
        session.judgepart(0, 1, 3)

    def test_everything_stays_as_it_was(self):
        session = self.session
        calls = [
            (session.standing, ()), (session.row, ()), (session.people, ()), (session.size, ()),
            (session.what, ([],)), (session.what, ([1, 2, 3, 4],)),
        ]
        for c in range(1, 5):
            calls += [(session.spots, (c,)), (session.fate, (c,))]
            calls += [(session.falls, (0, c)), (session.falls, (1, c))]
        before = session.state()
        for call, arguments in calls:
            first = call(*arguments)
            self.assertEqual(session.state(), before, (call, arguments))
            self.assertEqual(call(*arguments), first)

    def test_an_answer_is_not_what_is_kept(self):
        before = self.session.state()
        for call in (self.session.row, self.session.people, self.session.standing, self.session.size):
            call().clear()
        self.assertEqual(self.session.state(), before)


if __name__ == "__main__":
    unittest.main()
