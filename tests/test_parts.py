"""Points 9, 13 and 14: judgetouching and judgepart."""

import unittest

from helpers import END, SessionCase, piece, play_example

HUGE = 10 ** 18


class Reviewed(SessionCase):
    """Row: a, x with insertion 1, y with insertion 1 and deletion 2, b with deletion 2, c with pending look 3, end."""

    def setUp(self):
        super().setUp()
        session = self.session
        play_example(session)
        session.author(4)
        session.paint(2, 3, 0, 5)
        self.assertEqual(
            session.pieces(),
            [
                piece("a"), piece("x", [1]), piece("y", [1], [2]), piece("b", [], [2]),
                piece("c", pending=[(3, 0, 5)]), END,
            ],
        )


class Judgetouching(Reviewed):
    def test_gives_the_verdict_to_the_whole_row(self):
        self.assertEqual(self.session.judgetouching(0, 1, 2), [1, 2, 3])
        self.assertEqual(
            self.session.pieces(),
            [piece("a"), piece("b", [], [2]), piece("c", pending=[(3, 0, 5)]), END],
        )

    def test_a_part_that_is_not_shown(self):
        self.assertEqual(self.session.judgetouching(1, 3, 4), [1, 2, 3])
        self.assertEqual(self.session.signs(), "axc|")
        self.assertEqual(self.session.fate(2), [3, 0, 2, 0, 2, 0, 0])
        self.assertEqual(self.session.fate(1), [2, 0, 1, 1, 0, 0, 1])

    def test_a_pending_look(self):
        self.assertEqual(self.session.judgetouching(1, 4, 5), [1, 0, 1])
        self.assertEqual(self.session.pieces()[4], piece("c", look=(5, 0, 0, 0)))

    def test_several_changes_upon_one_piece_one_after_the_other(self):
        self.assertEqual(self.session.judgetouching(0, 2, 3), [2, 2, 4])
        self.assertEqual(self.session.pieces()[:2], [piece("a"), piece("b")])
        self.assertEqual(self.session.tallies(1), (0, 2, 0))
        self.assertEqual(self.session.tallies(2), (0, 1, 1))
        self.assertEqual(self.session.standing(), [1, 3])

    def test_a_part_that_bears_nothing(self):
        before = self.session.state()
        for i, j in ((0, 1), (5, 6)):
            for v in (0, 1):
                self.assertEqual(self.session.judgetouching(v, i, j), [0, 0, 0])
                self.assertEqual(self.session.state(), before)

    def test_from_0_to_the_number_of_all_pieces(self):
        self.assertEqual(self.session.judgetouching(1, 0, 6), [3, 2, 5])
        self.assertEqual(
            self.session.pieces(), [piece("a"), piece("x"), piece("c", look=(5, 0, 0, 0)), END]
        )

    def test_a_change_that_stands_outside_the_part_alone_is_not_selected(self):
        self.session.judgetouching(0, 0, 3)
        self.assertEqual(self.session.standing(), [1, 3])

    def test_a_move_goes_as_a_whole(self):
        self.session.judgeby(1, 0, 0, 0, 0)
        self.session.move(0, 2, 3)
        self.assertEqual(self.session.signs(), "[a][x]cax|")
        self.assertEqual(self.session.judgetouching(0, 4, 5), [1, 2, 4])
        self.assertEqual(self.session.signs(), "axc|")


class JudgepartOutsideIsLeft(SessionCase):
    """A selected change that is no move, upon pieces within and outside the part."""

    def setUp(self):
        super().setUp()
        self.session.put(0, "abcd")
        self.session.track(1)

    def test_a_cut_accepted(self):
        self.session.cut(0, 3)
        self.assertEqual(self.session.judgepart(1, 1, 2), [1, 1, 1])
        self.assertEqual(
            self.session.pieces(), [piece("a", [], [1]), piece("c", [], [1]), piece("d"), END]
        )
        self.assertEqual(self.session.fate(1), [1, 0, 2, 2, 1, 0, 0])

    def test_a_cut_rejected(self):
        self.session.cut(0, 3)
        self.assertEqual(self.session.judgepart(0, 1, 2), [1, 0, 1])
        self.assertEqual(self.session.signs(), "[a]b[c]d|")
        self.assertEqual(self.session.fate(1), [1, 0, 2, 2, 0, 1, 0])

    def test_a_put_rejected_and_accepted(self):
        self.session.put(1, "xyz")
        self.assertEqual(self.session.judgepart(0, 2, 3), [1, 1, 1])
        self.assertEqual(self.session.judgepart(1, 2, 3), [1, 0, 1])
        self.assertEqual(
            self.session.pieces(),
            [piece("a"), piece("x", [1]), piece("z"), piece("b"), piece("c"), piece("d"), END],
        )
        self.assertEqual(self.session.fate(1), [1, 0, 1, 1, 1, 1, 0])

    def test_a_paint_accepted_and_rejected(self):
        self.session.paint(0, 3, 0, 5)
        self.assertEqual(self.session.judgepart(1, 0, 1), [1, 0, 1])
        self.assertEqual(self.session.judgepart(0, 1, 2), [1, 0, 1])
        self.assertEqual(
            self.session.pieces(),
            [piece("a", look=(5, 0, 0, 0)), piece("b"), piece("c", pending=[(1, 0, 5)]), piece("d"), END],
        )
        self.assertEqual(self.session.fate(1), [1, 0, 3, 1, 1, 1, 0])

    def test_the_last_end_within_the_part(self):
        self.session.paint(3, 5, 0, 5)
        self.assertEqual(self.session.judgepart(1, 4, 5), [1, 0, 1])
        self.assertEqual(self.session.pieces()[3:], [piece("d", pending=[(1, 0, 5)]), piece(10, look=(5, 0, 0, 0))])


class JudgepartOfAMove(SessionCase):
    """Row: a, [b], [c], d, e, b, c, f, end; the moved pieces lie partly outside each part."""

    def setUp(self):
        super().setUp()
        self.session.put(0, "abcdef")
        self.session.track(1)
        self.session.move(1, 3, 5)
        self.assertEqual(self.session.signs(), "a[b][c]debcf|")

    def test_accepted_by_what_stayed(self):
        self.assertEqual(self.session.judgepart(1, 1, 2), [1, 2, 4])
        self.assertEqual(self.session.signs(), "adebcf|")
        self.assertEqual(self.session.fate(1), [1, 0, 4, 0, 4, 0, 0])

    def test_rejected_by_what_stayed(self):
        self.assertEqual(self.session.judgepart(0, 2, 3), [1, 2, 4])
        self.assertEqual(self.session.signs(), "abcdef|")
        self.assertEqual(self.session.fate(1), [1, 0, 4, 0, 0, 4, 0])

    def test_accepted_by_what_came_over(self):
        self.assertEqual(self.session.judgepart(1, 6, 7), [1, 2, 4])
        self.assertEqual(self.session.signs(), "adebcf|")
        self.assertEqual(self.session.size(), [7, 7, 7, 1])

    def test_rejected_by_what_came_over(self):
        self.assertEqual(self.session.judgepart(0, 5, 6), [1, 2, 4])
        self.assertEqual(self.session.signs(), "abcdef|")

    def test_a_move_and_a_paint_together(self):
        """The paint stands upon what came over and upon f; what stayed goes out before the part."""
        self.session.author(2)
        self.session.paint(3, 6, 0, 5)
        self.assertEqual(self.session.judgepart(1, 5, 6), [2, 2, 5])
        painted = (2, 0, 5)
        self.assertEqual(
            self.session.pieces(),
            [
                piece("a"), piece("d"), piece("e"), piece("b", look=(5, 0, 0, 0)),
                piece("c", pending=[painted]), piece("f", pending=[painted]), END,
            ],
        )
        self.assertEqual(self.session.fate(2), [2, 0, 3, 2, 1, 0, 0])

    def test_a_rejected_move_takes_a_paint_along_outside_the_part(self):
        self.session.author(2)
        self.session.paint(4, 5, 0, 5)
        self.assertEqual(self.session.judgepart(0, 5, 6), [1, 2, 5])
        self.assertEqual(self.session.fate(2), [2, 0, 3, 0, 0, 0, 1])


class JudgepartOneAfterTheOther(SessionCase):
    def test_a_piece_that_went_out_on_an_earlier_change(self):
        self.session.track(1)
        self.session.put(0, "ab")
        self.session.author(2)
        self.session.cut(0, 2)
        self.assertEqual(self.session.judgepart(0, 0, 1), [2, 1, 2])
        self.assertEqual(self.session.pieces(), [piece("b", [1], [2]), END])
        self.assertEqual(self.session.fate(1), [1, 0, 1, 1, 0, 1, 0])
        self.assertEqual(self.session.fate(2), [2, 0, 2, 1, 0, 0, 1])

    def test_pieces_of_the_part_behind_others_that_went_out(self):
        """The part stays these pieces, whatever row places they get meanwhile."""
        self.session.put(0, "abcde")
        self.session.track(1)
        self.session.cut(0, 2)
        self.session.paint(0, 3, 0, 5)
        self.assertEqual(self.session.signs(), "[a][b]cde|")
        self.assertEqual(self.session.judgepart(1, 1, 3), [2, 1, 2])
        painted = (2, 0, 5)
        self.assertEqual(
            self.session.pieces(),
            [
                piece("a", [], [1]), piece("c", look=(5, 0, 0, 0)),
                piece("d", pending=[painted]), piece("e", pending=[painted]), END,
            ],
        )

    def test_a_move_that_takes_pieces_out_before_the_part(self):
        self.session.put(0, "abcd")
        self.session.track(1)
        self.session.move(0, 1, 3)
        self.session.author(3)
        self.session.cut(2, 4)
        self.assertEqual(self.session.signs(), "[a]bc[a][d]|")
        self.assertEqual(self.session.judgepart(0, 3, 4), [2, 1, 3])
        self.assertEqual(
            self.session.pieces(), [piece("a"), piece("b"), piece("c"), piece("d", [], [2]), END]
        )
        self.assertEqual(self.session.tallies(1), (0, 2, 0))
        self.assertEqual(self.session.tallies(2), (0, 0, 1))

    def test_looks_within_the_part_by_rising_number(self):
        self.session.put(0, "ab")
        self.session.track(1)
        self.session.paint(0, 2, 0, 5)
        self.session.paint(0, 2, 0, 7)
        self.assertEqual(self.session.judgepart(1, 0, 1), [2, 0, 2])
        self.assertEqual(self.session.pieces()[0], piece("a", look=(7, 0, 0, 0)))
        self.assertEqual(self.session.pieces()[1], piece("b", pending=[(1, 0, 5), (2, 0, 7)]))
        self.assertEqual(self.session.tallies(1), (1, 0, 0))


class Judgepart(Reviewed):
    def test_the_example_of_the_document(self):
        self.assertEqual(self.session.judgepart(1, 2, 3), [2, 1, 2])
        self.assertEqual(self.session.pieces()[:3], [piece("a"), piece("x", [1]), piece("b", [], [2])])
        self.assertEqual(self.session.fate(1), [2, 0, 1, 1, 1, 0, 0])
        self.assertEqual(self.session.fate(2), [3, 0, 2, 1, 1, 0, 0])

    def test_from_0_to_the_number_of_all_pieces(self):
        self.assertEqual(self.session.judgepart(0, 0, 6), [3, 2, 5])
        self.assertEqual(self.session.pieces(), [piece("a"), piece("b"), piece("c"), END])

    def test_a_part_that_bears_nothing(self):
        before = self.session.state()
        for i, j in ((0, 1), (5, 6)):
            for v in (0, 1):
                self.assertEqual(self.session.judgepart(v, i, j), [0, 0, 0])
                self.assertEqual(self.session.state(), before)

    def test_shown_and_hidden_pieces_in_one_part(self):
        self.assertEqual(self.session.judgepart(0, 3, 5), [2, 0, 2])
        self.assertEqual(self.session.signs(), "ax[y]bc|")
        self.assertEqual(self.session.standing(), [2, 1, 2])


class PartsRefused(Reviewed):
    def calls(self):
        return (self.session.judgetouching, self.session.judgepart)

    def test_verdict(self):
        for call in self.calls():
            for v in (-1, 2, HUGE, -HUGE):
                self.refused(-2, call, v, 0, 1)

    def test_part(self):
        bad = ((-1, 1), (0, 0), (1, 1), (6, 6), (2, 1), (6, 0), (0, 7), (5, 7), (6, 7), (-1, 7))
        for call in self.calls():
            for i, j in bad + ((-HUGE, HUGE), (0, HUGE), (-HUGE, 1), (HUGE, HUGE)):
                for v in (0, 1):
                    self.refused(-1, call, v, i, j)

    def test_verdict_is_looked_at_first(self):
        for call in self.calls():
            self.refused(-2, call, 2, 0, 0)
            self.refused(-2, call, -1, -1, 7)

    def test_the_new_object(self):
        self.session = type(self.session)()
        for call in self.calls():
            self.assertEqual(call(1, 0, 1), [0, 0, 0])
            self.refused(-1, call, 1, 0, 2)
            self.refused(-1, call, 1, 1, 1)


class VerdictFirst(Reviewed):
    def test_every_judging_call_looks_at_the_verdict_before_anything_else(self):
        session = self.session
        for v in (-1, 2):
            self.refused(-2, session.judge, v, 0)
            self.refused(-2, session.judgeby, v, 100, 5, 1, 0)
            self.refused(-2, session.judgelist, v, [0])
            self.refused(-2, session.judgetouching, v, 3, 3)
            self.refused(-2, session.judgepart, v, 3, 3)


if __name__ == "__main__":
    unittest.main()
