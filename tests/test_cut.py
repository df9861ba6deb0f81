"""Point 6: cut, and what point 4 says of it."""

import unittest

from helpers import END, SessionCase, piece

HUGE = 10 ** 18


class Cut(SessionCase):
    def test_untracked_takes_the_pieces_out(self):
        self.session.put(0, "abcd")
        self.assertEqual(self.session.cut(1, 3), 0)
        self.assertEqual(self.session.pieces(), [piece("a"), piece("d"), END])

    def test_tracked_marks_the_pieces(self):
        self.session.put(0, "abcd")
        self.session.track(1)
        self.session.author(4)
        self.session.clock(2)
        self.assertEqual(self.session.cut(1, 3), 1)
        self.assertEqual(
            self.session.pieces(),
            [piece("a"), piece("b", [], [1]), piece("c", [], [1]), piece("d"), END],
        )
        self.assertEqual(self.session.changes(), [(4, 2, 2)])

    def test_untracked_takes_out_tracked_pieces_too(self):
        self.session.track(1)
        self.session.put(0, "ab")
        self.session.author(2)
        self.session.track(0)
        self.assertEqual(self.session.cut(0, 2), 0)
        self.assertEqual(self.session.pieces(), [END])

    def test_hidden_pieces_within_the_stretch_stay_as_they_are(self):
        self.session.put(0, "abcd")
        self.session.track(1)
        self.session.cut(1, 2)
        self.assertEqual(self.session.cut(0, 2), 2)
        self.assertEqual(
            self.session.pieces(),
            [piece("a", [], [2]), piece("b", [], [1]), piece("c", [], [2]), piece("d"), END],
        )
        self.session.track(0)
        self.session.cut(0, 1)
        self.assertEqual(self.session.signs(), "[a][b][c]|")

    def test_all_but_the_last_end(self):
        self.session.put(0, "ab")
        self.session.cut(0, 2)
        self.assertEqual(self.session.pieces(), [END])


class CutOwn(SessionCase):
    def test_own_pieces_go_out_and_no_change_is_entered(self):
        self.session.track(1)
        self.session.put(0, "ab")
        self.assertEqual(self.session.cut(0, 2), 0)
        self.assertEqual(self.session.pieces(), [END])
        self.assertEqual(self.session.size(), [1, 1, 1, 1])

    def test_own_and_other_pieces_in_one_stretch(self):
        self.session.put(0, "ab")
        self.session.track(1)
        self.session.put(1, "x")
        self.assertEqual(self.session.cut(0, 3), 2)
        self.assertEqual(self.session.pieces(), [piece("a", [], [2]), piece("b", [], [2]), END])

    def test_pieces_of_another_author_are_not_own(self):
        self.session.track(1)
        self.session.put(0, "a")
        self.session.author(2)
        self.assertEqual(self.session.cut(0, 1), 2)
        self.assertEqual(self.session.pieces(), [piece("a", [1], [2]), END])

    def test_the_last_insertion_decides(self):
        self.session.track(1)
        self.session.put(0, "ab")
        self.session.author(2)
        self.session.move(0, 1, 2)
        self.assertEqual(self.session.pieces()[2], piece("a", [1, 2]))
        self.session.author(1)
        self.assertEqual(self.session.cut(1, 2), 3)
        self.assertEqual(self.session.pieces()[2], piece("a", [1, 2], [3]))

    def test_what_a_command_takes_away_is_in_no_tally(self):
        self.session.track(1)
        self.session.put(0, "ab")
        self.session.author(2)
        self.session.paint(0, 1, 0, 5)
        self.session.author(1)
        self.session.cut(0, 1)
        self.assertEqual(self.session.tallies(1), (0, 0, 0))
        self.assertEqual(self.session.tallies(2), (0, 0, 0))


class CutRefused(SessionCase):
    def test_the_last_end_is_never_cut(self):
        self.refused(-1, self.session.cut, 0, 1)
        self.session.put(0, "ab")
        self.refused(-1, self.session.cut, 0, 3)
        self.refused(-1, self.session.cut, 2, 3)

    def test_bad_stretches(self):
        self.session.put(0, "abc")
        self.session.track(1)
        for p, q in ((-1, 1), (1, 1), (2, 1), (0, 5), (-HUGE, HUGE), (HUGE, HUGE)):
            self.refused(-1, self.session.cut, p, q)

    def test_places_count_shown_pieces(self):
        self.session.put(0, "abc")
        self.session.track(1)
        self.session.cut(0, 1)
        self.refused(-1, self.session.cut, 0, 3)
        self.assertEqual(self.session.cut(0, 2), 2)


if __name__ == "__main__":
    unittest.main()
