"""Point 19: what."""

import unittest

from helpers import SessionCase, play_example

HUGE = 10 ** 18


class What(SessionCase):
    def text(self, changes):
        """The signs of the text that what tells, with an end as '|', and its looks that are not plain."""
        told = self.session.what(changes)
        self.assertEqual(len(told), 1 + 5 * told[0])
        groups = [told[at:at + 5] for at in range(1, len(told), 5)]
        signs = "".join("|" if group[0] == 10 else chr(group[0]) for group in groups)
        return signs, [tuple(group[1:]) for group in groups if any(group[1:])]

    def signs(self, changes):
        return self.text(changes)[0]


class WhatOfATextWithoutChanges(What):
    def test_the_numbers(self):
        self.session.put(0, "a")
        self.session.paint(0, 1, 1, 7)
        self.assertEqual(self.session.what([]), [2, 97, 0, 7, 0, 0, 10, 0, 0, 0, 0])

    def test_refused(self):
        self.refused(-4, self.session.what, [1])


class WhatOfInsertionsAndDeletions(What):
    def setUp(self):
        super().setUp()
        play_example(self.session)
        self.assertEqual(self.session.signs(), "ax[y][b]c|")

    def test_the_empty_list_is_the_text_before_all_changes(self):
        self.assertEqual(self.signs([]), "abc|")

    def test_the_put_alone(self):
        self.assertEqual(self.signs([1]), "axybc|")

    def test_the_cut_alone(self):
        self.assertEqual(self.signs([2]), "ac|")

    def test_both(self):
        self.assertEqual(self.signs([1, 2]), "axc|")
        self.assertEqual(self.signs([2, 1]), "axc|")

    def test_a_number_that_comes_twice(self):
        self.assertEqual(self.session.what([2, 1, 2, 2, 1]), self.session.what([1, 2]))
        self.assertEqual(self.session.what([1] * 2000), self.session.what([1]))

    def test_a_change_that_stands_no_longer_does_nothing(self):
        self.session.judge(1, 1)
        self.assertEqual(self.signs([]), "axybc|")
        self.assertEqual(self.signs([1]), "axybc|")
        self.assertEqual(self.signs([2]), "axc|")

    def test_nothing_changes_by_it(self):
        before = self.session.state()
        for changes in ([], [1], [2], [1, 2]):
            self.session.what(changes)
            self.assertEqual(self.session.state(), before)

    def test_refused(self):
        for c in (0, -1, 3, HUGE, -HUGE):
            self.refused(-4, self.session.what, [c])
            self.refused(-4, self.session.what, [1, 2, c])
            self.refused(-4, self.session.what, [c, 1])


class WhatOfSeveralInsertions(What):
    """a was moved twice: [a] with deletion 1, [a] with insertion 1 and deletion 2, a with insertions 1 and 2."""

    def setUp(self):
        super().setUp()
        self.session.put(0, "abcd")
        self.session.track(1)
        self.session.move(0, 1, 2)
        self.session.author(2)
        self.session.move(1, 2, 3)
        self.assertEqual(self.session.signs(), "[a]b[a]cad|")

    def test_all_of_the_insertions_must_be_of_the_list(self):
        self.assertEqual(self.signs([]), "abcd|")
        self.assertEqual(self.signs([1]), "bacd|")
        self.assertEqual(self.signs([1, 2]), "bcad|")

    def test_the_second_move_without_the_first(self):
        self.assertEqual(self.signs([2]), "abcd|")


class WhatOfPendingLooks(What):
    def setUp(self):
        super().setUp()
        self.session.put(0, "a")
        self.session.paint(0, 1, 3, 9)
        self.session.track(1)
        for k, value in ((0, 5), (1, 6), (0, 7), (0, 8)):
            self.session.paint(0, 1, k, value)

    def look(self, changes):
        return self.text(changes)[1]

    def test_own_look_where_there_is_none_of_the_list(self):
        self.assertEqual(self.look([]), [(0, 0, 0, 9)])

    def test_the_last_one_of_the_list_for_each_property(self):
        self.assertEqual(self.look([1]), [(5, 0, 0, 9)])
        self.assertEqual(self.look([3, 1]), [(7, 0, 0, 9)])
        self.assertEqual(self.look([1, 2]), [(5, 6, 0, 9)])
        self.assertEqual(self.look([4, 3, 2, 1]), [(8, 6, 0, 9)])
        self.assertEqual(self.look([1, 4]), [(8, 0, 0, 9)])
        self.assertEqual(self.look([2]), [(0, 6, 0, 9)])

    def test_each_piece_has_its_own(self):
        self.session.put(1, "b")
        self.session.author(2)
        self.session.paint(0, 3, 2, 4)
        self.assertEqual(
            self.session.what([6, 4, 5]),
            [3, 97, 8, 0, 4, 9, 98, 8, 6, 4, 9, 10, 0, 0, 4, 0],
        )


if __name__ == "__main__":
    unittest.main()
