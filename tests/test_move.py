"""Point 8: move, and what point 4 says of it."""

import unittest

from helpers import END, SessionCase, piece

HUGE = 10 ** 18


class MoveUntracked(SessionCase):
    def setUp(self):
        super().setUp()
        self.session.put(0, "abcdef")

    def test_to_the_left(self):
        self.assertEqual(self.session.move(3, 5, 1), 0)
        self.assertEqual(self.session.signs(), "adebcf|")

    def test_to_the_right(self):
        self.assertEqual(self.session.move(1, 3, 5), 0)
        self.assertEqual(self.session.signs(), "adebcf|")

    def test_to_the_beginning_and_before_the_last_end(self):
        self.session.move(4, 6, 0)
        self.assertEqual(self.session.signs(), "efabcd|")
        self.session.move(0, 1, 6)
        self.assertEqual(self.session.signs(), "fabcde|")

    def test_pieces_come_over_as_they_are(self):
        self.session.track(1)
        self.session.author(2)
        self.session.put(1, "x")
        self.session.author(3)
        self.session.paint(1, 2, 0, 5)
        moved = piece("x", [1], pending=[(2, 0, 5)])
        self.assertEqual(self.session.pieces()[1], moved)
        self.session.track(0)
        self.assertEqual(self.session.move(1, 2, 0), 0)
        self.assertEqual(self.session.pieces()[:2], [moved, piece("a")])


class MoveTracked(SessionCase):
    def setUp(self):
        super().setUp()
        self.session.put(0, "abcd")
        self.session.track(1)
        self.session.author(2)
        self.session.clock(6)

    def test_to_the_left(self):
        self.assertEqual(self.session.move(2, 4, 1), 1)
        self.assertEqual(
            self.session.pieces(),
            [
                piece("a"),
                piece("c", [1]),
                piece("d", [1]),
                piece("b"),
                piece("c", [], [1]),
                piece("d", [], [1]),
                END,
            ],
        )
        self.assertEqual(self.session.changes(), [(2, 6, 4)])

    def test_to_the_right(self):
        self.assertEqual(self.session.move(0, 2, 3), 1)
        self.assertEqual(
            self.session.pieces(),
            [
                piece("a", [], [1]),
                piece("b", [], [1]),
                piece("c"),
                piece("a", [1]),
                piece("b", [1]),
                piece("d"),
                END,
            ],
        )

    def test_before_the_last_end(self):
        self.session.move(0, 1, 4)
        self.assertEqual(self.session.signs(), "[a]bcda|")

    def test_a_copy_keeps_look_insertions_and_pending_looks(self):
        self.session.put(1, "x")
        self.session.paint(1, 2, 3, 9)
        self.session.author(3)
        self.session.paint(1, 2, 0, 5)
        self.assertEqual(self.session.move(1, 2, 3), 3)
        self.assertEqual(
            self.session.pieces()[1:5],
            [
                piece("x", [1], [3], [(2, 0, 5)], (0, 0, 0, 9)),
                piece("b"),
                piece("x", [1, 3], [], [(2, 0, 5)], (0, 0, 0, 9)),
                piece("c"),
            ],
        )

    def test_a_copy_is_own_to_who_moved_it(self):
        self.session.move(0, 1, 2)
        self.assertEqual(self.session.signs(), "[a]bacd|")
        self.assertEqual(self.session.move(1, 2, 4), 0)
        self.assertEqual(self.session.signs(), "[a]bcda|")
        self.assertEqual(self.session.size()[3], 1)

    def test_a_copy_of_a_copy(self):
        self.session.move(0, 1, 2)
        self.session.author(3)
        self.assertEqual(self.session.move(1, 2, 3), 2)
        self.assertEqual(
            self.session.pieces(),
            [
                piece("a", [], [1]),
                piece("b"),
                piece("a", [1], [2]),
                piece("c"),
                piece("a", [1, 2]),
                piece("d"),
                END,
            ],
        )

    def test_own_and_other_pieces_come_over_in_order(self):
        self.session.put(1, "x")
        self.assertEqual(self.session.move(0, 3, 4), 2)
        self.assertEqual(
            self.session.pieces(),
            [
                piece("a", [], [2]),
                piece("b", [], [2]),
                piece("c"),
                piece("a", [2]),
                piece("x", [1]),
                piece("b", [2]),
                piece("d"),
                END,
            ],
        )

    def test_own_pieces_alone_enter_no_change(self):
        self.session.put(1, "xy")
        self.assertEqual(self.session.move(1, 3, 0), 0)
        self.assertEqual(self.session.signs(), "xyabcd|")
        self.assertEqual(self.session.size()[3], 1)

    def test_hidden_pieces_stay_and_what_comes_stands_behind_them(self):
        self.session.cut(1, 2)
        self.assertEqual(self.session.signs(), "a[b]cd|")
        self.session.move(0, 2, 3)
        self.assertEqual(self.session.signs(), "[a][b][c]dac|")
        self.session.move(0, 1, 3)
        self.assertEqual(self.session.signs(), "[a][b][c][d]acd|")
        self.session.put(0, "x")
        self.session.move(2, 3, 0)
        self.assertEqual(self.session.signs(), "[a][b][c][d]cxad|")


class MoveRefused(SessionCase):
    def setUp(self):
        super().setUp()
        self.session.put(0, "abcd")
        self.session.track(1)

    def test_bad_stretches(self):
        for p, q in ((-1, 1), (1, 1), (2, 1), (3, 5), (4, 5), (-HUGE, HUGE)):
            self.refused(-1, self.session.move, p, q, 0)

    def test_the_last_end_is_never_moved(self):
        self.refused(-1, self.session.move, 4, 5, 0)
        self.refused(-1, self.session.move, 3, 5, 0)

    def test_bad_targets(self):
        for r in (-1, 5, HUGE, -HUGE):
            self.refused(-1, self.session.move, 1, 2, r)

    def test_targets_within_the_stretch_or_at_its_ends(self):
        for r in (1, 2, 3):
            self.refused(-3, self.session.move, 1, 3, r)
        self.assertEqual(self.session.move(1, 3, 0), 1)

    def test_places_are_looked_at_first(self):
        self.refused(-1, self.session.move, 2, 5, 3)
        self.refused(-1, self.session.move, -1, 2, 1)
        self.refused(-1, self.session.move, 2, 1, 2)


if __name__ == "__main__":
    unittest.main()
