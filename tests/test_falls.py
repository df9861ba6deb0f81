"""Point 15: falls."""

import unittest

from helpers import SessionCase

HUGE = 10 ** 18


class FallsWithAPiece(SessionCase):
    def setUp(self):
        super().setUp()
        session = self.session
        session.track(1)
        session.put(0, "abc")
        session.author(2)
        session.cut(0, 1)
        session.author(3)
        session.paint(0, 1, 0, 5)
        session.paint(1, 3, 1, 6)
        self.assertEqual(session.signs(), "[a]bc|")

    def test_all_that_stand_upon_its_pieces_alone(self):
        """4 stands upon the last end too."""
        self.assertEqual(self.session.falls(0, 1), [2, 2, 3])

    def test_none_falls_with_an_accepted_put(self):
        self.assertEqual(self.session.falls(1, 1), 0)

    def test_none_falls_with_a_cut_of_what_stands_elsewhere_too(self):
        self.assertEqual(self.session.falls(1, 2), 0)
        self.assertEqual(self.session.falls(0, 2), 0)

    def test_a_put_falls_when_all_of_it_is_cut(self):
        self.session.judgepart(0, 1, 3)
        self.assertEqual(self.session.standing(), [3, 1, 2, 4])
        self.assertEqual(self.session.falls(1, 2), [1, 1])
        self.assertEqual(self.session.falls(0, 2), 0)

    def test_nothing_changes_by_it(self):
        before = self.session.state()
        for c in range(1, 5):
            for v in (0, 1):
                self.session.falls(v, c)
        self.assertEqual(self.session.state(), before)
        self.assertEqual(self.session.fate(1), [1, 0, 1, 3, 0, 0, 0])
        self.assertEqual(self.session.fate(2), [2, 0, 2, 1, 0, 0, 0])

    def test_judge_then_ends_just_these(self):
        self.session.falls(0, 1)
        self.assertEqual(self.session.judge(0, 1), [1, 3, 6])
        self.assertEqual(self.session.standing(), [1, 4])

    def test_what_stands_no_longer_is_not_told_again(self):
        self.session.judge(0, 2)
        self.assertEqual(self.session.falls(0, 1), [1, 3])

    def test_of_a_change_that_stands_no_longer(self):
        self.session.judge(0, 3)
        self.assertEqual(self.session.falls(0, 3), 0)
        self.assertEqual(self.session.falls(1, 3), 0)

    def test_refused(self):
        for v in (-1, 2, HUGE, -HUGE):
            self.refused(-2, self.session.falls, v, 1)
        for c in (0, -1, 5, HUGE, -HUGE):
            for v in (0, 1):
                self.refused(-4, self.session.falls, v, c)

    def test_verdict_is_looked_at_first(self):
        self.refused(-2, self.session.falls, 2, 0)


class FallsWithLooks(SessionCase):
    def setUp(self):
        super().setUp()
        self.session.put(0, "ab")
        self.session.track(1)
        for k, value in ((0, 5), (1, 6), (0, 7), (0, 8)):
            self.session.paint(0, 1, k, value)

    def test_accepted_takes_those_before_it_of_its_property_along(self):
        self.assertEqual(self.session.falls(1, 4), [2, 1, 3])
        self.assertEqual(self.session.falls(1, 3), [1, 1])
        self.assertEqual(self.session.falls(1, 2), 0)
        self.assertEqual(self.session.falls(1, 1), 0)

    def test_rejected_takes_none_along(self):
        for c in range(1, 5):
            self.assertEqual(self.session.falls(0, c), 0)

    def test_a_look_that_is_pending_elsewhere_too_does_not_fall(self):
        self.session.paint(0, 2, 0, 9)
        self.session.paint(0, 1, 0, 1)
        self.assertEqual(self.session.falls(1, 6), [3, 1, 3, 4])

    def test_no_tally_counts_it(self):
        self.session.falls(1, 4)
        self.assertEqual([self.session.tallies(c) for c in range(1, 5)], [(0, 0, 0)] * 4)


class FallsWithAMove(SessionCase):
    def test_what_was_done_upon_the_copy_falls_with_a_rejected_move(self):
        self.session.put(0, "abc")
        self.session.track(1)
        self.session.move(0, 1, 2)
        self.session.author(2)
        self.session.cut(1, 2)
        self.assertEqual(self.session.signs(), "[a]b[a]c|")
        self.assertEqual(self.session.falls(0, 1), [1, 2])
        self.assertEqual(self.session.falls(1, 1), 0)
        self.assertEqual(self.session.falls(1, 2), 0)


if __name__ == "__main__":
    unittest.main()
