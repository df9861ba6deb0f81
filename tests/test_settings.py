"""Points 1 to 3 and 22: author, clock, track and size; and the new object."""

import unittest

from helpers import END, SessionCase, piece

HUGE = 10 ** 18


class NewObject(SessionCase):
    def test_holds_the_last_end_alone(self):
        self.assertEqual(self.session.pieces(), [END])
        self.assertEqual(self.session.size(), [1, 1, 1, 0])

    def test_author_is_1_time_is_0_tracking_is_off(self):
        self.assertEqual(self.session.put(0, "a"), 0)
        self.session.track(1)
        self.session.put(0, "b")
        self.assertEqual(self.session.changes(), [(1, 0, 1)])


class Author(SessionCase):
    def test_from_1_to_99(self):
        for a in (1, 2, 99):
            self.assertEqual(self.session.author(a), 0)
            self.assertEqual(self.session.text.author, a)

    def test_refused_outside(self):
        self.session.author(7)
        for a in (0, 100, -1, -HUGE, HUGE):
            self.refused(-2, self.session.author, a)

    def test_changes_bear_the_author_of_their_moment(self):
        self.session.track(1)
        self.session.author(5)
        self.session.put(0, "a")
        self.session.author(6)
        self.session.put(0, "b")
        self.assertEqual(self.session.changes(), [(5, 0, 1), (6, 0, 1)])


class Clock(SessionCase):
    def test_goes_on_and_may_stand(self):
        for t in (0, 5, 5, HUGE):
            self.assertEqual(self.session.clock(t), 0)
            self.assertEqual(self.session.text.time, t)

    def test_refused_below_0_before_going_back_is_looked_at(self):
        self.session.clock(5)
        self.refused(-2, self.session.clock, -1)
        self.refused(-2, self.session.clock, -HUGE)

    def test_refused_if_it_goes_back(self):
        self.session.clock(5)
        self.refused(-3, self.session.clock, 4)
        self.refused(-3, self.session.clock, 0)

    def test_changes_bear_the_time_of_their_moment(self):
        self.session.track(1)
        self.session.put(0, "a")
        self.session.clock(9)
        self.session.put(0, "b")
        self.assertEqual(self.session.changes(), [(1, 0, 1), (1, 9, 1)])


class Track(SessionCase):
    def test_on_and_off(self):
        self.assertEqual(self.session.track(1), 0)
        self.assertEqual(self.session.put(0, "a"), 1)
        self.assertEqual(self.session.track(1), 0)
        self.assertEqual(self.session.put(0, "b"), 2)
        self.assertEqual(self.session.track(0), 0)
        self.assertEqual(self.session.put(0, "c"), 0)

    def test_refused_with_another_number(self):
        for on in (-1, 2, HUGE, -HUGE):
            self.refused(-2, self.session.track, on)
        self.session.track(1)
        self.refused(-2, self.session.track, 2)

    def test_changes_no_piece(self):
        self.session.track(1)
        self.session.put(0, "a")
        self.session.author(2)
        self.session.cut(0, 1)
        self.session.track(0)
        self.assertEqual(self.session.pieces(), [piece("a", [1], [2]), END])


class Size(SessionCase):
    def test_counts_shown_all_without_insertions_and_changes(self):
        self.session.put(0, "abc")
        self.assertEqual(self.session.size(), [4, 4, 4, 0])
        self.session.track(1)
        self.session.put(1, "xy")
        self.assertEqual(self.session.size(), [6, 6, 4, 1])
        self.session.author(2)
        self.session.cut(2, 4)
        self.assertEqual(self.session.size(), [4, 6, 4, 2])

    def test_a_change_stays_entered_when_no_piece_bears_it(self):
        self.session.track(1)
        self.session.put(0, "a")
        self.session.cut(0, 1)
        self.assertEqual(self.session.size(), [1, 1, 1, 1])
        self.assertEqual(self.session.put(0, "b"), 2)


if __name__ == "__main__":
    unittest.main()
