"""Point 5: put, and what point 4 says of it."""

import unittest

from helpers import END, PLAIN, SessionCase, piece

HUGE = 10 ** 18


class Put(SessionCase):
    def test_untracked_pieces_bear_nothing_and_0_is_answered(self):
        self.assertEqual(self.session.put(0, "ab"), 0)
        self.assertEqual(self.session.put(1, "c"), 0)
        self.assertEqual(self.session.pieces(), [piece("a"), piece("c"), piece("b"), END])
        self.assertEqual(self.session.changes(), [])

    def test_tracked_pieces_bear_the_change_and_it_is_answered(self):
        self.session.track(1)
        self.session.author(3)
        self.session.clock(8)
        self.assertEqual(self.session.put(0, "ab"), 1)
        self.assertEqual(self.session.put(1, "c"), 2)
        self.assertEqual(self.session.pieces(), [piece("a", [1]), piece("c", [2]), piece("b", [1]), END])
        self.assertEqual(self.session.changes(), [(3, 8, 1), (3, 8, 1)])
        self.assertEqual(self.session.tallies(1), (0, 0, 0))

    def test_at_the_last_place_stands_before_the_last_end(self):
        self.session.put(0, "a")
        self.session.put(1, "b")
        self.assertEqual(self.session.signs(), "ab|")

    def test_every_sign(self):
        signs = [10] + list(range(32, 127))
        self.assertEqual(self.session.put(0, signs), 0)
        self.assertEqual([told[0] for told in self.session.pieces()], signs + [10])

    def test_two_thousand_signs(self):
        self.session.put(0, "x" * 2000)
        self.assertEqual(self.session.size(), [2001, 2001, 2001, 0])


class PutBehindHiddenPieces(SessionCase):
    def setUp(self):
        super().setUp()
        self.session.put(0, "abc")
        self.session.track(1)
        self.session.cut(1, 2)

    def test_stands_directly_before_the_shown_piece(self):
        self.session.put(1, "x")
        self.assertEqual(self.session.signs(), "a[b]xc|")

    def test_stands_before_hidden_pieces_that_are_behind_its_place(self):
        self.session.put(0, "x")
        self.assertEqual(self.session.signs(), "xa[b]c|")

    def test_at_place_0_stands_behind_hidden_pieces(self):
        self.session.cut(0, 1)
        self.session.put(0, "x")
        self.assertEqual(self.session.signs(), "[a][b]xc|")

    def test_at_the_last_end_stands_behind_hidden_pieces(self):
        self.session.cut(1, 2)
        self.session.put(1, "x")
        self.assertEqual(self.session.signs(), "a[b][c]x|")

    def test_look_is_that_of_the_shown_piece_before_not_of_the_hidden_one(self):
        self.session.track(0)
        self.session.paint(0, 1, 0, 7)
        self.session.put(1, "x")
        self.assertEqual(self.session.pieces()[2], piece("x", look=(7, 0, 0, 0)))


class PutLooks(SessionCase):
    def looks(self):
        return [told[1] for told in self.session.pieces()]

    def test_plain_at_the_beginning(self):
        self.session.put(0, "a")
        self.session.paint(0, 2, 1, 5)
        self.session.put(0, "x")
        self.assertEqual(self.looks(), [(0, 0, 0, 0), (0, 5, 0, 0), (0, 5, 0, 0)])

    def test_the_look_as_shown_of_the_sign_before(self):
        self.session.put(0, "ab")
        self.session.paint(0, 1, 1, 5)
        self.session.track(1)
        self.session.paint(0, 1, 2, 6)
        self.session.put(1, "xy")
        self.assertEqual(self.session.pieces()[1], piece("x", [2], look=(0, 5, 6, 0)))
        self.assertEqual(self.session.pieces()[2], piece("y", [2], look=(0, 5, 6, 0)))

    def test_behind_a_sign_that_was_put_at_once_with_an_end(self):
        self.session.paint(0, 1, 0, 7)
        self.session.put(0, "\nb")
        self.session.put(2, "c")
        self.assertEqual(self.looks(), [(7, 0, 0, 0), PLAIN, PLAIN, (7, 0, 0, 0)])

    def test_behind_and_before_signs_that_were_put_at_once_with_ends(self):
        self.session.paint(0, 1, 0, 7)
        self.session.put(0, "\na\n\nb")
        self.session.paint(1, 2, 1, 5)
        self.session.paint(3, 4, 2, 6)
        self.assertEqual(self.looks(), [(7, 0, 0, 0), (0, 5, 0, 0), (7, 0, 0, 0), (7, 0, 6, 0), PLAIN, (7, 0, 0, 0)])
        self.session.put(5, "c")
        self.session.put(4, "\n")
        self.session.put(2, "d\n")
        self.assertEqual(
            self.looks(),
            [
                (7, 0, 0, 0), (0, 5, 0, 0), (0, 5, 0, 0), (7, 0, 0, 0), (7, 0, 0, 0),
                (7, 0, 6, 0), (7, 0, 0, 0), PLAIN, PLAIN, (7, 0, 0, 0),
            ],
        )

    def test_plain_behind_a_paragraphs_end(self):
        self.session.put(0, "a\nb")
        self.session.paint(0, 4, 0, 9)
        self.session.put(2, "x")
        self.assertEqual(self.session.pieces()[2], piece("x"))

    def test_an_end_has_the_look_as_shown_of_the_next_end(self):
        self.session.put(0, "ab\nc")
        self.session.paint(2, 3, 0, 3)
        self.session.paint(4, 5, 0, 4)
        self.session.track(1)
        self.session.paint(2, 3, 1, 8)
        self.session.put(1, "\n")
        self.assertEqual(self.session.pieces()[1], piece("\n", [2], look=(3, 8, 0, 0)))
        self.session.put(4, "\n")
        self.assertEqual(self.session.pieces()[4], piece("\n", [3], look=(4, 0, 0, 0)))

    def test_an_end_at_the_place_of_an_end_has_its_look(self):
        self.session.put(0, "a\nb")
        self.session.paint(1, 2, 0, 3)
        self.session.put(1, "\n")
        self.assertEqual(self.looks()[1], (3, 0, 0, 0))

    def test_an_end_passes_over_ends_that_are_not_shown(self):
        self.session.put(0, "a\nb")
        self.session.paint(1, 2, 0, 3)
        self.session.track(1)
        self.session.cut(1, 2)
        self.session.put(0, "\n")
        self.assertEqual(self.session.pieces()[0], piece("\n", [2]))

    def test_new_pieces_never_count(self):
        self.session.put(0, "a")
        self.session.paint(0, 1, 0, 5)
        self.session.paint(1, 2, 0, 6)
        self.session.put(1, "x\ny\n")
        self.assertEqual(
            self.looks(),
            [(5, 0, 0, 0), (5, 0, 0, 0), (6, 0, 0, 0), (5, 0, 0, 0), (6, 0, 0, 0), (6, 0, 0, 0)],
        )


class PutRefused(SessionCase):
    def setUp(self):
        super().setUp()
        self.session.put(0, "ab")
        self.session.track(1)

    def test_place(self):
        for p in (-1, 3, HUGE, -HUGE):
            self.refused(-1, self.session.put, p, "x")

    def test_place_counts_shown_pieces(self):
        self.session.cut(0, 1)
        self.refused(-1, self.session.put, 2, "x")
        self.assertEqual(self.session.put(1, "x"), 2)

    def test_signs(self):
        self.refused(-2, self.session.put, 0, [])
        for number in (0, 9, 11, 31, 127, -10, HUGE, -HUGE):
            self.refused(-2, self.session.put, 0, [97, number])
            self.refused(-2, self.session.put, 0, [number, 97])

    def test_place_is_looked_at_before_signs(self):
        self.refused(-1, self.session.put, 3, [])
        self.refused(-1, self.session.put, -1, [31])

    def test_a_refused_put_uses_up_no_number(self):
        self.refused(-2, self.session.put, 0, [])
        self.assertEqual(self.session.put(0, "x"), 1)


if __name__ == "__main__":
    unittest.main()
