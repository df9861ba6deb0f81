"""Point 7: paint, and what point 4 says of it."""

import unittest

from helpers import END, SessionCase, piece

HUGE = 10 ** 18


class Paint(SessionCase):
    def test_untracked_sets_the_own_look(self):
        self.session.put(0, "abc")
        for k in range(4):
            self.assertEqual(self.session.paint(1, 2, k, 10 + k), 0)
        self.assertEqual(
            self.session.pieces(), [piece("a"), piece("b", look=(10, 11, 12, 13)), piece("c"), END]
        )

    def test_tracked_adds_a_pending_look_behind_the_others(self):
        self.session.put(0, "abc")
        self.session.track(1)
        self.session.author(2)
        self.session.clock(3)
        self.assertEqual(self.session.paint(0, 2, 0, 5), 1)
        self.assertEqual(self.session.paint(1, 3, 0, 99), 2)
        self.assertEqual(
            self.session.pieces(),
            [
                piece("a", pending=[(1, 0, 5)]),
                piece("b", pending=[(1, 0, 5), (2, 0, 99)]),
                piece("c", pending=[(2, 0, 99)]),
                END,
            ],
        )
        self.assertEqual(self.session.changes(), [(2, 3, 3), (2, 3, 3)])

    def test_the_last_end_can_be_painted(self):
        self.session.paint(0, 1, 3, 4)
        self.assertEqual(self.session.pieces(), [piece(10, look=(0, 0, 0, 4))])
        self.session.track(1)
        self.assertEqual(self.session.paint(0, 1, 3, 5), 1)
        self.assertEqual(self.session.pieces(), [piece(10, pending=[(1, 3, 5)], look=(0, 0, 0, 4))])

    def test_untracked_drops_the_pending_looks_of_the_property_alone(self):
        self.session.put(0, "a")
        self.session.track(1)
        self.session.paint(0, 1, 0, 5)
        self.session.paint(0, 1, 1, 6)
        self.session.paint(0, 1, 0, 7)
        self.session.track(0)
        self.assertEqual(self.session.paint(0, 1, 0, 7), 0)
        self.assertEqual(
            self.session.pieces(), [piece("a", pending=[(2, 1, 6)], look=(7, 0, 0, 0)), END]
        )
        self.assertEqual(self.session.tallies(1), (0, 0, 0))

    def test_hidden_pieces_within_the_stretch_stay_as_they_are(self):
        self.session.put(0, "abc")
        self.session.track(1)
        self.session.cut(1, 2)
        self.assertEqual(self.session.paint(0, 3, 0, 5), 2)
        self.assertEqual(self.session.pieces()[1], piece("b", [], [1]))
        self.session.track(0)
        self.session.paint(0, 3, 0, 6)
        self.assertEqual(self.session.pieces()[1], piece("b", [], [1]))

    def test_own_pieces_are_painted_outright(self):
        self.session.put(0, "a")
        self.session.track(1)
        self.session.put(1, "x")
        self.assertEqual(self.session.paint(1, 2, 0, 5), 0)
        self.assertEqual(self.session.pieces()[1], piece("x", [1], look=(5, 0, 0, 0)))
        self.assertEqual(self.session.paint(0, 2, 0, 6), 2)
        self.assertEqual(
            self.session.pieces(),
            [piece("a", pending=[(2, 0, 6)]), piece("x", [1], look=(6, 0, 0, 0)), END],
        )

    def test_own_pieces_lose_the_pending_looks_of_others(self):
        self.session.track(1)
        self.session.put(0, "x")
        self.session.author(2)
        self.session.paint(0, 1, 0, 5)
        self.session.paint(0, 1, 1, 5)
        self.session.author(1)
        self.assertEqual(self.session.paint(0, 1, 0, 5), 0)
        self.assertEqual(
            self.session.pieces()[0], piece("x", [1], pending=[(3, 1, 5)], look=(5, 0, 0, 0))
        )


class PaintWithAValueThatIsShown(SessionCase):
    def test_enters_nothing(self):
        self.session.put(0, "ab")
        self.session.track(1)
        self.assertEqual(self.session.paint(0, 3, 2, 0), 0)
        self.assertEqual(self.session.pieces(), [piece("a"), piece("b"), END])
        self.assertEqual(self.session.size()[3], 0)

    def test_marks_only_the_pieces_that_show_another(self):
        self.session.put(0, "ab")
        self.session.paint(0, 1, 0, 5)
        self.session.track(1)
        self.assertEqual(self.session.paint(0, 2, 0, 5), 1)
        self.assertEqual(
            self.session.pieces(),
            [piece("a", look=(5, 0, 0, 0)), piece("b", pending=[(1, 0, 5)]), END],
        )

    def test_marks_only_some_of_the_pieces_that_were_put_at_once(self):
        for value, marked in ((7, "ab"), (0, "\n\n\n"), (5, "a\n\nb\n")):
            self.setUp()
            self.session.paint(0, 1, 0, 7)
            self.session.put(0, "a\n\nb")
            self.session.track(1)
            self.assertEqual(self.session.paint(0, 5, 0, value), 1)
            told = self.session.pieces()
            self.assertEqual("".join(chr(sign) for sign, *_ in told), "a\n\nb\n")
            self.assertEqual([look[0] for _, look, *_ in told], [0, 7, 7, 0, 7])
            self.assertEqual("".join(chr(sign) for sign, *_, pending in told if pending), marked)
            self.assertEqual({entry for *_, pending in told for entry in pending}, {(1, 0, value)})

    def test_the_last_pending_look_is_shown(self):
        self.session.put(0, "a")
        self.session.track(1)
        self.session.paint(0, 1, 0, 5)
        self.session.paint(0, 1, 0, 6)
        self.assertEqual(self.session.paint(0, 1, 0, 6), 0)
        self.assertEqual(self.session.paint(0, 1, 0, 5), 3)
        self.assertEqual(self.session.paint(0, 1, 0, 0), 4)
        self.assertEqual(
            self.session.pieces()[0], piece("a", pending=[(1, 0, 5), (2, 0, 6), (3, 0, 5), (4, 0, 0)])
        )


class PaintRefused(SessionCase):
    def setUp(self):
        super().setUp()
        self.session.put(0, "ab")
        self.session.track(1)

    def test_bad_stretches(self):
        for p, q in ((-1, 1), (1, 1), (2, 1), (0, 4), (3, 4), (-HUGE, HUGE)):
            self.refused(-1, self.session.paint, p, q, 0, 5)

    def test_bad_properties_and_values(self):
        for k in (-1, 4, HUGE, -HUGE):
            self.refused(-2, self.session.paint, 0, 1, k, 5)
        for v in (-1, 100, HUGE, -HUGE):
            self.refused(-2, self.session.paint, 0, 1, 0, v)

    def test_stretch_is_looked_at_first(self):
        self.refused(-1, self.session.paint, 0, 4, 4, 5)
        self.refused(-1, self.session.paint, 1, 1, 0, 100)


if __name__ == "__main__":
    unittest.main()
