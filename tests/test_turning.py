"""The calls until and flip: what is turned up from a deck, where it goes, and the refusals."""

from tests.helper import MOST, GameCase, play

SIDE = (0, 1)
FACE = (0, MOST)
COUNT = (0, 250)


class Until(GameCase):
    def start(self, cap=20000):
        """The deck of side 0 has the faces 7 8 9 8, that of side 1 has 8 5."""
        self.ok(0, 4, 2, 0, cap, 7, 8, 9, 8, 8, 5)

    def test_found_at_the_first(self):
        self.start()
        self.assertEqual(self.ok(14, 0, 7, 4), [0, 1, 0])
        self.assert_zone(0, [2, 3, 4])
        self.assertEqual(self.game.truth(2), [(7, 7)])
        self.assert_zone(4, [])
        self.assert_known([], [7])

    def test_found_at_a_later_one(self):
        self.start()
        self.assertEqual(self.ok(14, 0, 9, 4), [0, 1, 2])
        self.assertEqual(self.game.truth(4), [(8, 8), (7, 7)])
        self.assertEqual(self.game.truth(2), [(9, 9)])
        self.assert_zone(0, [4])
        self.assert_known([], [9])

    def test_found_at_the_last_of_n(self):
        self.start()
        self.assertEqual(self.ok(14, 0, 8, 2), [0, 1, 1])
        self.assert_zone(0, [3, 4])
        self.assertEqual(self.game.truth(2), [(8, 8)])
        self.assertEqual(self.game.truth(4), [(7, 7)])

    def test_found_at_the_last_of_the_deck(self):
        self.start()
        self.assertEqual(self.ok(14, 1, 5, 250), [0, 1, 1])
        self.assert_zone(1, [])
        self.assertEqual(self.game.truth(3), [(8, 5)])
        self.assertEqual(self.game.truth(5), [(7, 8)])
        self.assert_known([8], [])

    def test_not_found_within_n(self):
        self.start()
        self.assertEqual(self.ok(14, 0, 9, 2), [0, 0, 2])
        self.assertEqual(self.game.truth(4), [(8, 8), (7, 7)])
        self.assert_zone(0, [3, 4])
        self.assert_zone(2, [])
        self.assert_known([], [])

    def test_a_deck_that_ends_before(self):
        self.start()
        self.assertEqual(self.ok(14, 0, 5, 250), [0, 0, 4])
        self.assertEqual(self.game.faces(4), [8, 9, 8, 7])
        self.assert_zone(0, [])
        self.assert_zone(1, [5, 6])

    def test_none_asked_for_and_an_empty_deck(self):
        self.start(6)
        asked = self.game.asked()
        self.assertEqual(self.ok(14, 0, 7, 0), [0, 0, 0])
        self.assertEqual(self.game.asked(), asked)
        self.ok(0, 0, 1, 0, 1, 3)
        self.assertEqual(self.ok(14, 0, 3, 250), [0, 0, 0])
        self.assertEqual(self.game.live(), [1])

    def test_the_rest_of_the_deck_stays_hidden(self):
        self.start()
        self.ok(12, 1, 4)
        self.ok(14, 0, 8, 250)
        self.assert_known([], [4, 8])
        self.assertEqual(self.game.view(0, 0), [(0, -1), (0, -1)])
        self.assertEqual(self.game.view(1, 0), [(0, -1), (4, 8)])

    def test_numbers_go_on_one_by_one(self):
        self.start()
        self.ok(14, 0, 9, 250)
        self.assertEqual(self.game.state.last, 9)
        for number in (1, 2, 3):
            self.refused(-3, 11, number)

    def test_ranges(self):
        self.start()
        self.refuse_beyond(14, (0, 7, 1), (SIDE, FACE, COUNT))
        self.ok(0, 2, 1, 0, 9, MOST, 0, 0)
        self.assertEqual(self.ok(14, 0, MOST, 250), [0, 1, 0])
        self.assertEqual(self.ok(14, 1, 0, 250), [0, 1, 0])
        self.assertEqual(self.ok(14, 0, 0, 1), [0, 1, 0])

    def test_cap_as_if_n_were_moved(self):
        self.start(8)
        self.refused(-8, 14, 0, 7, 3)
        self.refused(-8, 14, 0, 7, 250)
        self.refused(-8, 14, 0, 6, 3)
        self.assertEqual(self.ok(14, 0, 7, 2), [0, 1, 0])
        self.refused(-8, 14, 0, 8, 2)
        self.assertEqual(self.ok(14, 0, 8, 1), [0, 1, 0])
        self.refused(-8, 14, 0, 9, 1)
        self.assertEqual(self.ok(14, 0, 9, 0), [0, 0, 0])

    def test_cap_as_if_all_of_a_shorter_deck_were_moved(self):
        self.start(8)
        self.assertEqual(self.ok(14, 1, 8, 250), [0, 1, 0])
        self.start(7)
        self.refused(-8, 14, 1, 8, 2)
        self.refused(-8, 14, 1, 8, 250)
        self.assertEqual(self.ok(14, 1, 8, 1), [0, 1, 0])
        self.assertEqual(self.ok(14, 1, 5, 0), [0, 0, 0])

    def test_an_empty_deck_at_the_cap(self):
        self.ok(0, 0, 1, 0, 1, 3)
        self.assertEqual(self.ok(14, 0, 3, 250), [0, 0, 0])
        self.refused(-8, 14, 1, 3, 250)

    def test_nearest_to_zero(self):
        self.start(6)
        self.refused(-1, 14, 2, 7, 1)
        self.refused(-1, 14, 0, -1, 1)
        self.refused(-1, 14, 0, 7, 251)
        self.refused(-8, 14, 0, 7, 1)

    def test_as_a_line(self):
        self.assertEqual(play((0, 3, 0, 0, 9, 4, 5, 6), (14, 0, 5, 3), (24, 2), (24, 4), (24, 0)),
                         [[0], [0, 1, 1], [0, 5, 5], [0, 4, 4], [0, 3, 6]])


class Flip(GameCase):
    def test_even_goes_to_the_hand(self):
        for face in (0, 2, MOST):
            self.ok(0, 2, 0, 0, 9, face, 1)
            self.assertEqual(self.ok(15, 0), [0, 1])
            self.assertEqual(self.game.truth(2), [(3, face)])
            self.assert_zone(0, [2])
            self.assert_zone(4, [])
            self.assert_known([], [3])

    def test_odd_goes_to_the_void(self):
        for face in (1, MOST - 1):
            self.ok(0, 0, 2, 0, 9, face, 2)
            self.assertEqual(self.ok(15, 1), [0, 2])
            self.assertEqual(self.game.truth(5), [(3, face)])
            self.assert_zone(1, [2])
            self.assert_zone(3, [])
            self.assert_known([], [])
            self.assertEqual(self.game.view(0, 5), [(3, face)])

    def test_of_the_second_side(self):
        self.ok(0, 1, 1, 0, 9, 1, 4)
        self.assertEqual(self.ok(15, 1), [0, 1])
        self.assert_zone(3, [3])
        self.assert_known([3], [])

    def test_the_end_of_the_hand_and_the_beginning_of_the_void(self):
        self.ok(0, 4, 0, 0, 9, 2, 4, 1, 3)
        for told in (1, 1, 2, 2):
            self.assertEqual(self.ok(15, 0), [0, told])
        self.assert_zone(2, [5, 6])
        self.assert_zone(4, [8, 7])

    def test_an_empty_deck(self):
        self.ok(0, 1, 0, 0, 1, 2)
        asked = self.game.asked()
        self.assertEqual(self.ok(15, 1), [0, 0])
        self.assertEqual(self.game.asked(), asked)

    def test_ranges(self):
        self.ok(0, 1, 1, 0, 9, 2, 2)
        self.refuse_beyond(15, (0,), (SIDE,))
        self.ok(15, 0)
        self.ok(15, 1)

    def test_cap(self):
        for face, told in ((1, 2), (2, 1)):
            self.ok(0, 2, 0, 0, 3, face, face)
            self.assertEqual(self.ok(15, 0), [0, told])
            self.refused(-8, 15, 0)
            self.refused(-1, 15, 2)
            self.assertEqual(self.ok(15, 1), [0, 0])

    def test_as_a_line(self):
        self.assertEqual(play((15, 0), (0, 2, 0, 0, 9, 4, 5), (15, 0), (15, 0), (15, 0), (24, 2), (24, 4)),
                         [[0, 0], [0], [0, 1], [0, 2], [0, 0], [0, 3, 4], [0, 4, 5]])
