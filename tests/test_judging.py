"""Points 9 to 12: judge, judgeby, judgelist and what they have in common; the tallies."""

import unittest

from helpers import END, SessionCase, piece

HUGE = 10 ** 18


class WorkedExampleOfPendingLooks(SessionCase):
    """The example under "Words"."""

    def setUp(self):
        super().setUp()
        self.session.put(0, "a")
        self.session.track(1)
        for k, value in ((0, 5), (1, 6), (0, 7), (0, 8)):
            self.session.paint(0, 1, k, value)
        all_pending = [(1, 0, 5), (2, 1, 6), (3, 0, 7), (4, 0, 8)]
        self.assertEqual(self.session.pieces()[0], piece("a", pending=all_pending))

    def test_accepted(self):
        self.assertEqual(self.session.judge(1, 3), [1, 0, 2])
        self.assertEqual(
            self.session.pieces()[0], piece("a", pending=[(2, 1, 6), (4, 0, 8)], look=(7, 0, 0, 0))
        )
        self.assertEqual(self.session.tallies(3), (1, 0, 0))
        self.assertEqual(self.session.tallies(1), (0, 0, 1))

    def test_rejected(self):
        self.assertEqual(self.session.judge(0, 3), [1, 0, 1])
        self.assertEqual(
            self.session.pieces()[0], piece("a", pending=[(1, 0, 5), (2, 1, 6), (4, 0, 8)])
        )
        self.assertEqual(self.session.tallies(3), (0, 1, 0))
        self.assertEqual(self.session.tallies(1), (0, 0, 0))


class ExampleBehindThePromises(SessionCase):
    def setUp(self):
        super().setUp()
        self.session.put(0, "abc")
        self.session.track(1)
        self.session.author(2)
        self.assertEqual(self.session.put(1, "xy"), 1)
        self.session.author(3)
        self.assertEqual(self.session.cut(2, 4), 2)

    def test_the_row(self):
        self.assertEqual(
            self.session.pieces(),
            [piece("a"), piece("x", [1]), piece("y", [1], [2]), piece("b", [], [2]), piece("c"), END],
        )

    def test_rejecting_the_put(self):
        self.assertEqual(self.session.judge(0, 1), [1, 2, 3])
        self.assertEqual(self.session.pieces(), [piece("a"), piece("b", [], [2]), piece("c"), END])
        self.assertEqual(self.session.tallies(1), (0, 2, 0))
        self.assertEqual(self.session.tallies(2), (0, 0, 1))

    def test_accepting_the_put(self):
        self.assertEqual(self.session.judge(1, 1), [1, 0, 2])
        self.assertEqual(self.session.signs(), "ax[y][b]c|")
        self.assertEqual(self.session.size(), [4, 6, 6, 2])
        self.assertEqual(self.session.tallies(1), (2, 0, 0))

    def test_accepting_the_cut(self):
        self.assertEqual(self.session.judge(1, 2), [1, 2, 3])
        self.assertEqual(self.session.pieces(), [piece("a"), piece("x", [1]), piece("c"), END])
        self.assertEqual(self.session.tallies(2), (2, 0, 0))
        self.assertEqual(self.session.tallies(1), (0, 0, 1))

    def test_rejecting_the_cut(self):
        self.assertEqual(self.session.judge(0, 2), [1, 0, 2])
        self.assertEqual(self.session.signs(), "axybc|")
        self.assertEqual(self.session.tallies(2), (0, 2, 0))

    def test_a_change_that_does_not_stand_is_no_refusal(self):
        self.session.judge(0, 1)
        before = self.session.state()
        self.assertEqual(self.session.judge(1, 1), [0, 0, 0])
        self.assertEqual(self.session.state(), before)

    def test_verdicts_in_either_order_give_one_text(self):
        self.session.judge(1, 2)
        self.session.judge(0, 1)
        self.assertEqual(self.session.pieces(), [piece("a"), piece("c"), END])


class JudgingAMove(SessionCase):
    def setUp(self):
        super().setUp()
        self.session.put(0, "abc")
        self.session.track(1)
        self.session.move(0, 1, 2)
        self.assertEqual(self.session.signs(), "[a]bac|")

    def test_accepted(self):
        self.assertEqual(self.session.judge(1, 1), [1, 1, 2])
        self.assertEqual(self.session.pieces(), [piece("b"), piece("a"), piece("c"), END])
        self.assertEqual(self.session.tallies(1), (2, 0, 0))

    def test_rejected(self):
        self.assertEqual(self.session.judge(0, 1), [1, 1, 2])
        self.assertEqual(self.session.pieces(), [piece("a"), piece("b"), piece("c"), END])
        self.assertEqual(self.session.tallies(1), (0, 2, 0))

    def test_a_copy_of_a_copy_goes_with_the_first_move(self):
        self.session.author(2)
        self.session.move(1, 2, 3)
        self.assertEqual(self.session.signs(), "[a]b[a]ca|")
        self.assertEqual(self.session.judge(0, 1), [1, 2, 5])
        self.assertEqual(self.session.pieces(), [piece("a"), piece("b"), piece("c"), END])
        self.assertEqual(self.session.tallies(1), (0, 3, 0))
        self.assertEqual(self.session.tallies(2), (0, 0, 2))

    def test_a_moved_copy_keeps_its_insertion_when_the_other_is_accepted(self):
        self.session.author(2)
        self.session.move(1, 2, 3)
        self.assertEqual(self.session.judge(1, 2), [1, 1, 3])
        self.assertEqual(
            self.session.pieces(), [piece("a", [], [1]), piece("b"), piece("c"), piece("a", [1]), END]
        )
        self.assertEqual(self.session.tallies(2), (2, 0, 0))
        self.assertEqual(self.session.tallies(1), (0, 0, 1))


class JudgingPendingLooks(SessionCase):
    def test_accepting_the_last_clears_the_property(self):
        self.session.track(1)
        self.session.paint(0, 1, 0, 5)
        self.session.paint(0, 1, 1, 6)
        self.session.paint(0, 1, 0, 7)
        self.assertEqual(self.session.judge(1, 3), [1, 0, 2])
        self.assertEqual(self.session.pieces(), [piece(10, pending=[(2, 1, 6)], look=(7, 0, 0, 0))])

    def test_accepting_the_first_leaves_what_is_behind(self):
        self.session.track(1)
        self.session.paint(0, 1, 0, 5)
        self.session.paint(0, 1, 0, 7)
        self.assertEqual(self.session.judge(1, 1), [1, 0, 1])
        self.assertEqual(self.session.pieces(), [piece(10, pending=[(2, 0, 7)], look=(5, 0, 0, 0))])

    def test_pending_looks_go_with_their_piece(self):
        self.session.track(1)
        self.session.put(0, "ab")
        self.session.author(2)
        self.session.paint(0, 3, 0, 5)
        self.assertEqual(self.session.judge(0, 1), [1, 2, 4])
        self.assertEqual(self.session.pieces(), [piece(10, pending=[(2, 0, 5)])])
        self.assertEqual(self.session.tallies(2), (0, 0, 2))

    def test_tallies_add_up_over_pieces_and_calls(self):
        self.session.put(0, "abcd")
        self.session.track(1)
        self.session.paint(0, 4, 0, 5)
        self.session.cut(0, 1)
        self.session.judge(1, 2)
        self.assertEqual(self.session.tallies(1), (0, 0, 1))
        self.session.cut(0, 1)
        self.session.judge(1, 3)
        self.assertEqual(self.session.tallies(1), (0, 0, 2))
        self.session.judge(0, 1)
        self.assertEqual(self.session.tallies(1), (0, 2, 2))


class JudgeRefused(SessionCase):
    def setUp(self):
        super().setUp()
        self.session.track(1)
        self.session.put(0, "ab")

    def test_verdict(self):
        for v in (-1, 2, HUGE, -HUGE):
            self.refused(-2, self.session.judge, v, 1)

    def test_change(self):
        for v in (0, 1):
            for c in (0, -1, 2, HUGE, -HUGE):
                self.refused(-4, self.session.judge, v, c)

    def test_verdict_is_looked_at_first(self):
        self.refused(-2, self.session.judge, 2, 5)


class ManyChanges(SessionCase):
    """Five changes: 1 put by 1 at 10, 2 put by 2 at 20, 3 cut by 1 at 20, 4 paint by 2 at 30, 5 move by 3 at 30."""

    def setUp(self):
        super().setUp()
        session = self.session
        session.put(0, "abcdef")
        session.track(1)
        session.clock(10)
        session.put(0, "x")
        session.author(2)
        session.clock(20)
        session.put(1, "y")
        session.author(1)
        session.cut(2, 3)
        session.author(2)
        session.clock(30)
        session.paint(2, 3, 0, 5)
        session.author(3)
        session.move(3, 4, 2)
        self.assertEqual(session.changes(), [(1, 10, 1), (2, 20, 1), (1, 20, 2), (2, 30, 3), (3, 30, 4)])
        self.assertEqual(session.signs(), "xy[a]cb[c]def|")

    def standing(self):
        standing = []
        for _, _, insertions, deletions, pending in self.session.pieces():
            standing += insertions + deletions + tuple(entry[0] for entry in pending)
        return sorted(set(standing))


class Judgeby(ManyChanges):
    def judged(self, a, k, from_time, to_time):
        self.session.judgeby(0, a, k, from_time, to_time)
        return [c for c in range(1, 6) if c not in self.standing()]

    def test_by_author(self):
        self.assertEqual(self.session.judgeby(0, 1, 0, 0, 99), [2, 1, 2])
        self.assertEqual(self.session.signs(), "yacb[c]def|")

    def test_by_kind(self):
        self.assertEqual(self.judged(0, 1, 0, 99), [1, 2])

    def test_by_each_kind(self):
        for k, c in ((2, 3), (3, 4), (4, 5)):
            self.setUp()
            self.assertEqual(self.judged(0, k, 0, 99), [c])

    def test_by_author_and_kind(self):
        self.assertEqual(self.judged(2, 3, 0, 99), [4])

    def test_by_time_with_both_ends(self):
        self.assertEqual(self.judged(0, 0, 10, 20), [1, 2, 3])

    def test_just_one_time(self):
        self.assertEqual(self.judged(0, 0, 30, 30), [4, 5])

    def test_between_times(self):
        self.assertEqual(self.judged(0, 0, 11, 19), [])

    def test_by_all_three(self):
        self.assertEqual(self.judged(1, 2, 11, 99), [3])

    def test_all(self):
        self.assertEqual(self.session.judgeby(1, 0, 0, -HUGE, HUGE), [5, 2, 6])
        self.assertEqual(
            self.session.pieces(),
            [piece("x"), piece("y"), piece("c"), piece("b", look=(5, 0, 0, 0)), piece("d"), piece("e"), piece("f"), END],
        )

    def test_none_if_to_is_less_than_from(self):
        before = self.session.state()
        self.assertEqual(self.session.judgeby(1, 0, 0, 30, 10), [0, 0, 0])
        self.assertEqual(self.session.judgeby(0, 0, 0, HUGE, -HUGE), [0, 0, 0])
        self.assertEqual(self.session.state(), before)

    def test_none_of_an_author_without_changes(self):
        before = self.session.state()
        self.assertEqual(self.session.judgeby(0, 99, 0, 0, 99), [0, 0, 0])
        self.assertEqual(self.session.state(), before)

    def test_with_no_change_entered(self):
        self.session = type(self.session)()
        self.assertEqual(self.session.judgeby(1, 0, 0, 0, 99), [0, 0, 0])

    def test_refused(self):
        for v in (-1, 2, HUGE):
            self.refused(-2, self.session.judgeby, v, 0, 0, 0, 99)
        for a in (-1, 100, HUGE, -HUGE):
            self.refused(-2, self.session.judgeby, 1, a, 0, 0, 99)
        for k in (-1, 5, HUGE, -HUGE):
            self.refused(-2, self.session.judgeby, 1, 0, k, 0, 99)
        self.refused(-2, self.session.judgeby, 1, 100, 0, 9, 0)


class Judgelist(ManyChanges):
    def test_selects_just_these(self):
        self.assertEqual(self.session.judgelist(1, [5, 1]), [2, 1, 3])
        self.assertEqual(self.standing(), [2, 3, 4])
        self.assertEqual(self.session.signs(), "xy[a]cbdef|")

    def test_a_number_that_comes_twice_counts_once(self):
        self.assertEqual(self.session.judgelist(0, [2, 2, 4, 2]), [2, 1, 2])
        self.assertEqual(self.session.tallies(2), (0, 1, 0))

    def test_the_empty_list(self):
        before = self.session.state()
        self.assertEqual(self.session.judgelist(1, []), [0, 0, 0])
        self.assertEqual(self.session.judgelist(0, []), [0, 0, 0])
        self.assertEqual(self.session.state(), before)

    def test_counts_only_those_that_stood(self):
        self.session.judge(0, 2)
        self.assertEqual(self.session.judgelist(1, [1, 2]), [1, 0, 1])

    def test_two_thousand_numbers(self):
        self.assertEqual(self.session.judgelist(1, [1, 2, 3, 4] * 500), [4, 1, 4])

    def test_refused(self):
        for v in (-1, 2, -HUGE):
            self.refused(-2, self.session.judgelist, v, [1])
            self.refused(-2, self.session.judgelist, v, [])
        for c in (0, 6, -1, HUGE, -HUGE):
            self.refused(-4, self.session.judgelist, 1, [1, c])
            self.refused(-4, self.session.judgelist, 0, [c, 1])

    def test_verdict_is_looked_at_first(self):
        self.refused(-2, self.session.judgelist, 2, [6])


class OneAfterTheOther(SessionCase):
    """Verdicts of one call are given by rising number, each to what the ones before left."""

    def test_a_change_whose_pieces_went_before_its_turn(self):
        self.session.track(1)
        self.session.put(0, "ab")
        self.session.author(2)
        self.session.cut(0, 1)
        self.assertEqual(self.session.judgelist(0, [2, 1]), [2, 2, 3])
        self.assertEqual(self.session.tallies(1), (0, 2, 0))
        self.assertEqual(self.session.tallies(2), (0, 0, 1))

    def test_looks_are_accepted_by_rising_number_not_by_the_order_of_the_list(self):
        self.session.track(1)
        self.session.paint(0, 1, 0, 5)
        self.session.paint(0, 1, 0, 7)
        self.assertEqual(self.session.judgelist(1, [2, 1]), [2, 0, 2])
        self.assertEqual(self.session.pieces(), [piece(10, look=(7, 0, 0, 0))])
        self.assertEqual(self.session.tallies(1), (1, 0, 0))
        self.assertEqual(self.session.tallies(2), (1, 0, 0))

    def test_a_look_is_accepted_before_its_piece_goes_with_the_cut(self):
        self.session.put(0, "a")
        self.session.track(1)
        self.session.paint(0, 1, 0, 5)
        self.session.cut(0, 1)
        self.assertEqual(self.session.judgelist(1, [2, 1]), [2, 1, 2])
        self.assertEqual(self.session.tallies(1), (1, 0, 0))
        self.assertEqual(self.session.tallies(2), (1, 0, 0))

    def test_an_insertion_is_accepted_before_its_piece_goes_with_the_cut(self):
        self.session.track(1)
        self.session.put(0, "a")
        self.session.author(2)
        self.session.cut(0, 1)
        self.assertEqual(self.session.judgeby(1, 0, 0, 0, 0), [2, 1, 2])
        self.assertEqual(self.session.tallies(1), (1, 0, 0))
        self.assertEqual(self.session.tallies(2), (1, 0, 0))


if __name__ == "__main__":
    unittest.main()
