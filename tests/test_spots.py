"""Point 16: spots."""

import unittest

from helpers import SessionCase
from trackverdict.runs import Run

HUGE = 10 ** 18
LOOK = (0, 0, 0, 0)


class Spots(SessionCase):
    def test_one_spot_for_each_role(self):
        self.session.put(0, "abcd")
        self.session.track(1)
        self.session.put(1, "xyz")
        self.session.cut(0, 1)
        self.session.paint(3, 5, 0, 5)
        self.assertEqual(self.session.signs(), "[a]xyzbcd|")
        self.assertEqual(self.session.spots(1), [1, 1, 3, 1])
        self.assertEqual(self.session.spots(2), [1, 0, 1, 2])
        self.assertEqual(self.session.spots(3), [1, 4, 2, 4])

    def test_row_places_count_pieces_that_are_not_shown(self):
        self.session.put(0, "abcd")
        self.session.track(1)
        self.session.cut(0, 3)
        self.session.paint(0, 1, 0, 5)
        self.assertEqual(self.session.spots(2), [1, 3, 1, 4])

    def test_as_long_as_it_can_be_whatever_else_the_pieces_bear(self):
        self.session.track(1)
        self.session.put(0, "abcde")
        self.session.author(2)
        self.session.cut(1, 2)
        self.session.paint(1, 2, 0, 5)
        self.assertEqual(self.session.signs(), "a[b]cde|")
        self.assertEqual(self.session.spots(1), [1, 0, 5, 1])

    def test_pieces_without_the_change_stand_between(self):
        self.session.track(1)
        self.session.put(0, "abc")
        self.session.author(2)
        self.session.put(1, "x")
        self.session.put(3, "yz")
        self.assertEqual(self.session.signs(), "axbyzc|")
        self.assertEqual(self.session.spots(1), [3, 0, 1, 1, 2, 1, 1, 5, 1, 1])
        self.assertEqual(self.session.spots(3), [1, 3, 2, 1])

    def test_the_last_end(self):
        self.session.put(0, "a")
        self.session.track(1)
        self.session.paint(0, 2, 0, 5)
        self.assertEqual(self.session.spots(1), [1, 0, 2, 4])

    def test_a_move_in_both_its_roles(self):
        self.session.put(0, "abcd")
        self.session.track(1)
        self.session.move(0, 2, 3)
        self.assertEqual(self.session.signs(), "[a][b]cabd|")
        self.assertEqual(self.session.spots(1), [2, 0, 2, 2, 3, 2, 1])

    def test_neighbours_with_different_roles(self):
        self.session.put(0, "abcd")
        self.session.track(1)
        self.session.move(0, 2, 3)
        self.session.track(0)
        self.session.cut(0, 1)
        self.assertEqual(self.session.signs(), "[a][b]abd|")
        self.assertEqual(self.session.spots(1), [2, 0, 2, 2, 2, 2, 1])

    def test_more_than_one_role_in_a_piece(self):
        """No line of calls makes such pieces: each change enters a piece in one way only."""
        self.session.track(1)
        self.session.put(0, "a")
        self.session.text.row = [
            Run((97, 98), (LOOK, LOOK), (1,), (1,), ()),
            Run((99,), (LOOK,), (1,), (), ((1, 0, 5),)),
            Run((100,), (LOOK,), (), (1,), ((1, 0, 5),)),
            Run((101,), (LOOK,), (1,), (1,), ((1, 0, 5), (1, 1, 5))),
            Run((10,), (LOOK,), (), (), ()),
        ]
        self.assertEqual(self.session.spots(1), [4, 0, 2, 3, 2, 1, 5, 3, 1, 6, 4, 1, 7])

    def test_a_change_that_stands_no_longer(self):
        self.session.track(1)
        self.session.put(0, "a")
        self.session.judge(1, 1)
        self.assertEqual(self.session.spots(1), 0)

    def test_nothing_changes_by_it(self):
        self.session.track(1)
        self.session.put(0, "abc")
        before = self.session.state()
        self.session.spots(1)
        self.assertEqual(self.session.state(), before)

    def test_refused(self):
        self.refused(-4, self.session.spots, 1)
        self.session.track(1)
        self.session.put(0, "a")
        for c in (0, -1, 2, HUGE, -HUGE):
            self.refused(-4, self.session.spots, c)


if __name__ == "__main__":
    unittest.main()
