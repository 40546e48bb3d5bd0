"""The calls reveal, lose and match: what is shown of a hand, what leaves it, and the refusals."""

from tests.helper import MOST, GameCase, play

SIDE = (0, 1)
FACE = (0, MOST)


class Reveal(GameCase):
    def start(self):
        """Hands: 6 and 7 of side 0, 8 of side 1."""
        self.game.begin(3, 2)
        self.ok(5, 0, 2)
        self.ok(5, 1, 1)

    def test_to_the_other_side(self):
        self.start()
        self.assertEqual(self.ok(13, 1, 0), [0, 2])
        self.assert_known([], [6, 7])
        self.assertEqual(self.ok(13, 0, 1), [0, 1])
        self.assert_known([8], [6, 7])
        self.assertEqual(self.game.view(1, 2), [(6, 101), (7, 102)])
        self.assertEqual(self.game.view(0, 3), [(8, 104)])

    def test_to_the_hand_s_own_side(self):
        self.start()
        self.assertEqual(self.ok(13, 0, 0), [0, 2])
        self.assertEqual(self.ok(13, 1, 1), [0, 1])
        self.assert_known([], [])

    def test_to_both(self):
        self.start()
        self.assertEqual(self.ok(13, 2, 0), [0, 2])
        self.assert_known([], [6, 7])
        self.assertEqual(self.ok(13, 2, 1), [0, 1])
        self.assert_known([8], [6, 7])

    def test_what_comes_later_is_hidden(self):
        self.start()
        self.ok(13, 1, 0)
        self.ok(5, 0, 1)
        self.assertEqual(self.game.view(1, 2), [(6, 101), (7, 102), (0, -1)])

    def test_moves_nothing(self):
        self.ok(0, 1, 0, 0, 2, 5)
        self.ok(5, 0, 1)
        self.assertEqual(self.ok(13, 2, 0), [0, 1])
        self.assert_zone(2, [2])

    def test_an_empty_hand(self):
        self.game.begin(2, 0, 0, 2)
        for side in (0, 1, 2):
            self.assertEqual(self.ok(13, side, 0), [0, 0])
        self.assert_known([], [])

    def test_ranges(self):
        self.start()
        self.refuse_beyond(13, (0, 0), ((0, 2), SIDE))
        self.refuse_beyond(13, (2, 1), ((0, 2), SIDE))
        self.refused(-1, 13, 3, 2)

    def test_as_a_line(self):
        self.assertEqual(play((0, 1, 1, 0, 9, 4, 5), (5, 1, 1), (13, 0, 1), (22, 0), (22, 1), (13, 2, 0)),
                         [[0], [0, 0], [0, 1], [0, 3], [0], [0, 0]])


class Lose(GameCase):
    def test_worked_by_hand_from_seed_0(self):
        # The shares of chance are 167951807, modulo 3: 2, then 218396424, modulo 2: 0, then any, modulo 1: 0.
        self.game.begin(3, 0)
        self.ok(5, 0, 3)
        self.assertEqual(self.ok(16, 0), [0, 1])
        self.assert_zone(2, [4, 5])
        self.assertEqual(self.game.truth(4), [(7, 103)])
        self.assertEqual(self.game.state.chance, 1442695040888963407)
        self.assertEqual(self.ok(16, 0), [0, 1])
        self.assert_zone(2, [5])
        self.assertEqual(self.game.truth(4), [(8, 101), (7, 103)])
        self.assertEqual(self.game.state.chance, 1876011003808476466)
        self.assertEqual(self.ok(16, 0), [0, 1])
        self.assert_zone(2, [])
        self.assertEqual(self.game.state.chance, 11166244414315200793)

    def test_of_the_second_side(self):
        self.game.begin(1, 2)
        self.ok(5, 1, 2)
        self.ok(5, 0, 1)
        self.assertEqual(self.ok(16, 1), [0, 1])
        self.assert_zone(3, [4])
        self.assertEqual(self.game.truth(5), [(7, 103)])
        self.assert_zone(2, [6])

    def test_the_others_stay_as_known_as_they_were(self):
        self.game.begin(3, 0)
        self.ok(5, 0, 3)
        self.ok(12, 1, 4)
        self.ok(16, 0)
        self.assert_known([], [4])
        self.assertEqual(self.game.view(1, 2), [(4, 101), (0, -1)])
        self.assertEqual(self.game.view(1, 4), [(7, 103)])

    def test_an_empty_hand(self):
        self.game.begin(1, 0, 5, 1)
        before = self.game.snapshot()
        self.assertEqual(self.ok(16, 0), [0, 0])
        self.assertEqual(self.ok(16, 1), [0, 0])
        self.assertEqual(self.game.snapshot(), before)

    def test_ranges(self):
        self.game.begin(1, 1)
        self.ok(5, 0, 1)
        self.ok(5, 1, 1)
        self.refuse_beyond(16, (0,), (SIDE,))
        self.ok(16, 0)
        self.ok(16, 1)

    def test_refused_at_the_cap_and_chance_stays(self):
        self.game.begin(3, 0, 0, 6)
        self.ok(5, 0, 3)
        self.refused(-8, 16, 0)
        self.refused(-8, 16, 0)
        self.refused(-1, 16, 2)
        self.assertEqual(self.game.state.chance, 0)
        self.assertEqual(self.ok(16, 1), [0, 0])

    def test_at_the_last_number_below_the_cap(self):
        self.game.begin(2, 0, 0, 5)
        self.ok(5, 0, 2)
        self.assertEqual(self.ok(16, 0), [0, 1])
        self.refused(-8, 16, 0)

    def test_as_a_line(self):
        self.assertEqual(play((16, 0), (0, 1, 0, 0, 9, 4), (5, 0, 1), (16, 0), (16, 0), (24, 4)),
                         [[0, 0], [0], [0, 0], [0, 1], [0, 0], [0, 3, 4]])


class Match(GameCase):
    def start(self, faces, cap=20000):
        """All the cards are in the hand of side 0; two more lie in the deck of side 1."""
        count = len(faces)
        self.ok(0, count, 2, 0, cap, *faces, 5, 6)
        self.ok(5, 0, count)

    def test_none_has_the_face(self):
        self.start((5, 6, 7))
        self.assertEqual(self.ok(17, 0, 8), [0, 0])
        self.assert_zone(2, [6, 7, 8])
        self.assert_zone(4, [])
        self.assert_known([], [6, 7, 8])

    def test_some_have_it(self):
        self.start((5, 6, 5, 7))
        self.assertEqual(self.ok(17, 0, 5), [0, 2])
        self.assertEqual(self.game.truth(2), [(8, 6), (10, 7)])
        self.assertEqual(self.game.truth(4), [(12, 5), (11, 5)])
        self.assert_known([], [8, 10])

    def test_moved_in_the_order_of_the_hand(self):
        self.start((5, 6, 5))
        self.ok(1, 6, 1, 0)
        self.assert_zone(2, [7, 8, 9])
        self.assertEqual(self.ok(17, 0, 5), [0, 2])
        cards = [self.game.card(number) for number in (10, 11)]
        self.assertEqual(cards, [3, 1])
        self.assert_zone(4, [11, 10])

    def test_all_have_it(self):
        self.start((5, 5))
        self.assertEqual(self.ok(17, 0, 5), [0, 2])
        self.assert_zone(2, [])
        self.assert_zone(4, [8, 7])
        self.assert_known([], [])

    def test_of_the_second_side(self):
        self.start((5,))
        self.ok(5, 1, 2)
        self.assertEqual(self.ok(17, 1, 5), [0, 1])
        self.assertEqual(self.game.truth(3), [(6, 6)])
        self.assertEqual(self.game.truth(5), [(7, 5)])
        self.assert_zone(2, [4])
        self.assert_known([6], [])

    def test_an_empty_hand(self):
        self.start((), 2)
        self.assertEqual(self.ok(17, 0, 5), [0, 0])
        self.assertEqual(self.ok(17, 1, 5), [0, 0])
        self.assert_known([], [])

    def test_ranges(self):
        self.start((0, MOST))
        self.refuse_beyond(17, (0, 5), (SIDE, FACE))
        self.assertEqual(self.ok(17, 0, 0), [0, 1])
        self.assertEqual(self.ok(17, 0, MOST), [0, 1])
        self.assertEqual(self.ok(17, 1, MOST), [0, 0])

    def test_cap_as_if_all_in_the_hand_were_moved(self):
        for face in (5, 6, 8):
            self.start((5, 6, 6), 10)
            self.refused(-8, 17, 0, face)
            self.assert_known([], [])
        self.start((5, 6, 6), 11)
        self.assertEqual(self.ok(17, 0, 5), [0, 1])
        self.assertEqual(self.ok(17, 0, 8), [0, 0])
        self.assertEqual(self.ok(17, 0, 6), [0, 2])
        self.assertEqual(self.ok(17, 0, 6), [0, 0])

    def test_one_that_could_be_moved_is_refused_with_the_others(self):
        self.start((5, 6), 7)
        self.refused(-8, 17, 0, 5)
        self.refused(-1, 17, 0, -1)
        self.refused(-1, 17, 2, 5)

    def test_an_empty_hand_at_the_cap(self):
        self.start((5,), 4)
        self.assertEqual(self.ok(17, 1, 5), [0, 0])
        self.refused(-8, 17, 0, 5)
        self.refused(-8, 17, 0, 6)

    def test_as_a_line(self):
        self.assertEqual(play((0, 2, 0, 0, 9, 4, 5), (5, 0, 2), (17, 0, 4), (20, 1, 2), (24, 4), (17, 1, 4)),
                         [[0], [0, 0], [0, 1], [0, 4, 5], [0, 5, 4], [0, 0]])
