"""The call token, what tokens go on as, and how they are told."""

from tests.helper import MOST, ZONES, GameCase, play

SIDE = (0, 1)


class Token(GameCase):
    def test_at_the_end_of_the_field(self):
        self.game.begin(2, 0)
        self.ok(1, 1, 3, 0)
        self.assertEqual(self.ok(18, 1, 7, 2), [0, 4, 5])
        self.assertEqual(self.ok(18, 0, 8, 1), [0, 6])
        self.assertEqual(self.game.truth(6), [(3, 101), (4, 7), (5, 7), (6, 8)])
        pieces = self.game.state.pieces
        self.assertEqual([pieces[number].owner for number in (4, 5, 6)], [1, 1, 0])

    def test_open_for_both(self):
        self.game.begin(0, 0)
        self.ok(18, 0, 7, 1)
        for side in SIDE:
            self.assertEqual(self.game.view(side, 6), [(1, 7)])
            self.assertEqual(self.game.ask(21, side, 1), [1, 7])
        self.assert_known([], [])
        self.refused(-4, 4, 1)

    def test_ranges(self):
        self.game.begin(0, 0)
        self.refuse_beyond(18, (0, 7, 1), (SIDE, (1, MOST), (1, 100)))
        self.assertEqual(self.ok(18, 0, 1, 1), [0, 1])
        self.assertEqual(self.ok(18, 1, MOST, 100), [0] + list(range(2, 102)))
        self.assertEqual(self.game.faces(6), [1] + [MOST] * 100)

    def test_cap(self):
        self.game.begin(1, 1, 0, 5)
        self.refused(-8, 18, 0, 7, 4)
        self.refused(-8, 18, 0, 7, 100)
        self.refused(-1, 18, 0, 7, 101)
        self.refused(-1, 18, 0, 0, 4)
        self.assertEqual(self.ok(18, 0, 7, 3), [0, 3, 4, 5])
        self.refused(-8, 18, 0, 7, 1)
        self.refused(-1, 18, 0, 7, 0)

    def test_before_any_begin_the_cap_is_0(self):
        self.refused(-8, 18, 0, 1, 1)

    def test_as_a_line(self):
        self.assertEqual(play((0, 0, 0, 0, 9), (18, 1, 5, 3), (24, 6), (18, 1, 5, 7)),
                         [[0], [0, 1, 2, 3], [0, 1, 5, 2, 5, 3, 5], [-8]])


class MovedToken(GameCase):
    def test_to_the_field_it_goes_on_and_on(self):
        self.game.begin(1, 0)
        self.assertEqual(self.ok(18, 1, 7, 2), [0, 2, 3])
        self.ok(1, 2, 3, 0)
        self.assertEqual(self.game.truth(6), [(3, 7), (4, 7)])
        self.refused(-3, 21, 0, 2)
        self.ok(1, 4, 3, 5)
        self.assertEqual(self.game.truth(6), [(3, 7), (5, 7)])
        self.refused(-3, 21, 0, 4)
        self.assertEqual(self.game.state.pieces[5].owner, 1)
        self.ok(1, 5, 2, 0)
        self.assertEqual(self.game.truth(6), [(3, 7)])
        self.refused(-3, 21, 0, 5)
        self.refused(-2, 21, 0, 6)

    def test_to_another_kind_it_goes_on_as_none(self):
        for kind in (0, 1, 2, 4, 5):
            for again in (False, True):
                self.game.begin(1, 1)
                number = self.ok(18, 0, 7, 1)[1]
                if again:
                    self.ok(1, number, 3, 0)
                    number += 1
                self.ok(1, number, kind, 0)
                self.assertEqual(self.game.live(), [1, 2])
                self.assert_known([], [])
                self.refused(-3, 1, number, 3, 0)
                self.refused(-2, 1, number + 1, 3, 0)
                self.ok(1, 1, 3, 0)
                self.assert_zone(6, [number + 1])

    def test_at_the_cap(self):
        self.game.begin(0, 0, 0, 2)
        self.ok(18, 0, 7, 2)
        self.refused(-8, 1, 1, 3, 0)
        self.ok(1, 1, 2, 0)
        self.assert_zone(6, [2])

    def test_not_in_a_hand_nor_a_deck(self):
        self.game.begin(1, 0)
        self.ok(18, 0, 7, 1)
        self.refused(-4, 2, 0, 2, 0)
        self.refused(-4, 3, 0, 2, 3)
        self.refused(-4, 19, 0, 2)
        self.refused(-7, 9, 0, 0, 2)

    def test_shown_and_looked_at(self):
        self.game.begin(0, 0)
        self.ok(18, 0, 7, 1)
        self.ok(11, 1)
        self.ok(12, 1, 1)
        self.assert_known([], [])


class ToldTokens(GameCase):
    def start(self):
        """The field: a card, two tokens of side 0, a card that side 1 laid face down, a token of side 1."""
        self.game.begin(2, 2)
        self.ok(1, 1, 3, 0)
        self.assertEqual(self.ok(18, 0, 55, 2), [0, 6, 7])
        self.ok(5, 1, 1)
        self.ok(3, 1, 8, 3)
        self.assertEqual(self.ok(18, 1, 66, 1), [0, 10])

    def test_view_and_truth(self):
        self.start()
        self.assertEqual(self.game.view(0, 6), [(5, 101), (6, 55), (7, 55), (9, -1), (10, 66)])
        self.assertEqual(self.game.view(1, 6), [(5, 101), (6, 55), (7, 55), (9, 103), (10, 66)])
        self.assertEqual(self.game.truth(6), [(5, 101), (6, 55), (7, 55), (9, 103), (10, 66)])

    def test_knows(self):
        self.start()
        for side in SIDE:
            self.assertEqual(self.ok(21, side, 6), [0, 1, 55])
            self.assertEqual(self.ok(21, side, 10), [0, 1, 66])
        self.ok(1, 6, 2, 0)
        self.refused(-3, 21, 0, 6)

    def test_known_and_rest_tell_of_none(self):
        self.start()
        self.assert_known([], [9])
        self.assert_rest([102], [104])
        for number in (6, 7, 10):
            self.ok(1, number, 2, 0)
        self.assert_known([], [9])
        self.assert_rest([102], [104])

    def test_ceased_they_are_told_nowhere(self):
        self.start()
        for number, kind in ((6, 0), (7, 4), (10, 5)):
            self.ok(1, number, kind, 0)
        told = [pair for zone in ZONES for pair in self.game.truth(zone)]
        self.assertEqual(sorted(told), [(2, 102), (4, 104), (5, 101), (9, 103)])
