"""Points 17 and 18: standing and fate."""

import unittest

from helpers import SessionCase, play_example

HUGE = 10 ** 18


class Standing(SessionCase):
    def test_none_at_first(self):
        self.assertEqual(self.session.standing(), 0)

    def test_rising_whatever_their_order_in_the_row(self):
        self.session.track(1)
        for _ in range(4):
            self.session.put(0, "a")
        self.assertEqual(self.session.standing(), [4, 1, 2, 3, 4])

    def test_a_change_borne_in_any_way_stands(self):
        self.session.put(0, "abcd")
        self.session.track(1)
        self.session.cut(0, 1)
        self.session.paint(0, 1, 0, 5)
        self.session.move(1, 2, 0)
        self.session.put(0, "x")
        self.assertEqual(self.session.standing(), [4, 1, 2, 3, 4])

    def test_a_change_without_marks_does_not_stand(self):
        self.session.track(1)
        self.session.put(0, "a")
        self.session.put(0, "b")
        self.session.put(0, "c")
        self.session.cut(0, 1)
        self.session.judge(1, 1)
        self.assertEqual(self.session.standing(), [1, 2])

    def test_nothing_changes_by_it(self):
        self.session.track(1)
        self.session.put(0, "a")
        before = self.session.state()
        self.session.standing()
        self.assertEqual(self.session.state(), before)


class Fate(SessionCase):
    def test_author_time_kind_and_marks(self):
        self.session.put(0, "abcd")
        self.session.track(1)
        self.session.author(7)
        self.session.clock(HUGE)
        self.session.put(0, "xyz")
        self.session.author(8)
        self.session.cut(3, 5)
        self.session.paint(0, 5, 2, 9)
        self.session.move(0, 2, 4)
        self.assertEqual(self.session.signs(), "[x][y]z[a][b]cxyd|")
        self.assertEqual(self.session.fate(1), [7, HUGE, 1, 5, 0, 0, 0])
        self.assertEqual(self.session.fate(2), [8, HUGE, 2, 2, 0, 0, 0])
        self.assertEqual(self.session.fate(3), [8, HUGE, 3, 7, 0, 0, 0])
        self.assertEqual(self.session.fate(4), [8, HUGE, 4, 4, 0, 0, 0])

    def test_the_example_of_the_document(self):
        play_example(self.session)
        self.session.judge(0, 1)
        self.assertEqual(self.session.fate(1), [2, 0, 1, 0, 0, 2, 0])
        self.assertEqual(self.session.fate(2), [3, 0, 2, 1, 0, 0, 1])

    def test_nothing_changes_by_it(self):
        self.session.track(1)
        self.session.put(0, "abc")
        before = self.session.state()
        self.session.fate(1)
        self.assertEqual(self.session.state(), before)

    def test_refused(self):
        self.refused(-4, self.session.fate, 1)
        self.session.track(1)
        self.session.put(0, "a")
        for c in (0, -1, 2, HUGE, -HUGE):
            self.refused(-4, self.session.fate, c)


class FateAfterCommands(SessionCase):
    """Marks that commands take away are in no tally."""

    def setUp(self):
        super().setUp()
        self.session.track(1)
        self.session.put(0, "abcd")
        self.session.author(2)
        self.session.paint(0, 2, 0, 5)

    def told(self):
        return [self.session.fate(1)[3:], self.session.fate(2)[3:]]

    def test_before(self):
        self.assertEqual(self.told(), [[4, 0, 0, 0], [2, 0, 0, 0]])

    def test_an_author_cuts_own_pieces(self):
        self.session.author(1)
        self.assertEqual(self.session.cut(1, 3), 0)
        self.assertEqual(self.told(), [[2, 0, 0, 0], [1, 0, 0, 0]])

    def test_an_author_paints_own_pieces(self):
        self.session.author(1)
        self.assertEqual(self.session.paint(0, 1, 0, 6), 0)
        self.assertEqual(self.told(), [[4, 0, 0, 0], [1, 0, 0, 0]])

    def test_commands_without_tracking(self):
        self.session.track(0)
        self.session.paint(0, 1, 0, 6)
        self.session.cut(1, 4)
        self.assertEqual(self.told(), [[1, 0, 0, 0], [0, 0, 0, 0]])

    def test_a_move_adds_marks_and_takes_none(self):
        self.assertEqual(self.session.move(0, 1, 2), 3)
        self.assertEqual(self.told(), [[5, 0, 0, 0], [3, 0, 0, 0]])

    def test_the_tallies_go_on_behind_it(self):
        self.session.author(1)
        self.session.cut(0, 1)
        self.session.judge(0, 1)
        self.assertEqual(self.told(), [[0, 0, 3, 0], [0, 0, 0, 1]])


class FateAfterVerdicts(SessionCase):
    """Row: [a], d, x, y, b, c, [d], end; 1 put x and y, 2 cut a, 3 painted y, b and c, 4 moved d."""

    def setUp(self):
        super().setUp()
        session = self.session
        session.put(0, "abcd")
        session.track(1)
        session.put(1, "xy")
        session.author(2)
        session.cut(0, 1)
        session.paint(1, 4, 0, 5)
        session.move(4, 5, 0)
        self.assertEqual(session.signs(), "[a]dxybc[d]|")

    def told(self):
        return [self.session.fate(c)[3:] for c in range(1, 5)]

    def test_before(self):
        self.assertEqual(self.told(), [[2, 0, 0, 0], [1, 0, 0, 0], [3, 0, 0, 0], [2, 0, 0, 0]])

    def test_a_put_accepted(self):
        self.session.judge(1, 1)
        self.assertEqual(self.told(), [[0, 2, 0, 0], [1, 0, 0, 0], [3, 0, 0, 0], [2, 0, 0, 0]])

    def test_a_put_rejected(self):
        self.session.judge(0, 1)
        self.assertEqual(self.told(), [[0, 0, 2, 0], [1, 0, 0, 0], [2, 0, 0, 1], [2, 0, 0, 0]])

    def test_a_cut_accepted(self):
        self.session.judgeby(1, 0, 2, 0, 0)
        self.assertEqual(self.told(), [[2, 0, 0, 0], [0, 1, 0, 0], [3, 0, 0, 0], [2, 0, 0, 0]])

    def test_a_cut_rejected(self):
        self.session.judgelist(0, [2])
        self.assertEqual(self.told(), [[2, 0, 0, 0], [0, 0, 1, 0], [3, 0, 0, 0], [2, 0, 0, 0]])

    def test_a_paint_accepted(self):
        self.session.judgetouching(1, 4, 5)
        self.assertEqual(self.told(), [[2, 0, 0, 0], [1, 0, 0, 0], [0, 3, 0, 0], [2, 0, 0, 0]])

    def test_a_paint_rejected(self):
        self.session.judge(0, 3)
        self.assertEqual(self.told(), [[2, 0, 0, 0], [1, 0, 0, 0], [0, 0, 3, 0], [2, 0, 0, 0]])

    def test_a_move_accepted(self):
        self.session.judge(1, 4)
        self.assertEqual(self.told(), [[2, 0, 0, 0], [1, 0, 0, 0], [3, 0, 0, 0], [0, 2, 0, 0]])

    def test_a_move_rejected(self):
        self.session.judge(0, 4)
        self.assertEqual(self.told(), [[2, 0, 0, 0], [1, 0, 0, 0], [3, 0, 0, 0], [0, 0, 2, 0]])

    def test_judgepart_counts_the_part_alone_and_moves_wholly(self):
        self.assertEqual(self.session.judgepart(0, 1, 4), [3, 3, 5])
        self.assertEqual(self.told(), [[0, 0, 2, 0], [1, 0, 0, 0], [2, 0, 0, 1], [0, 0, 2, 0]])

    def test_judgepart_accepts_one_piece_after_another(self):
        self.session.judgepart(1, 3, 4)
        self.assertEqual(self.told(), [[1, 1, 0, 0], [1, 0, 0, 0], [2, 1, 0, 0], [2, 0, 0, 0]])
        self.session.judgepart(0, 4, 5)
        self.assertEqual(self.told(), [[1, 1, 0, 0], [1, 0, 0, 0], [1, 1, 1, 0], [2, 0, 0, 0]])

    def test_verdicts_upon_what_stands_no_longer_add_nothing(self):
        self.session.judge(1, 1)
        self.session.judge(0, 1)
        self.assertEqual(self.told()[0], [0, 2, 0, 0])


if __name__ == "__main__":
    unittest.main()
