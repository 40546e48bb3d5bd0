"""Call 0, and how things are before it."""

from tests.helper import GREATEST_NUMBER, LEAST_NUMBER, MOST, GameCase


class Begin(GameCase):
    def test_line_begins_as_after_an_empty_begin(self):
        before = self.game.snapshot()
        self.assertEqual(self.game.begin(0, 0, 0, 0), [0])
        self.assertEqual(self.game.snapshot(), before)
        self.assertEqual((before["last"], before["cap"], before["chance"]), (0, 0, 0))

    def test_calls_before_any_begin(self):
        self.assertEqual(self.ok(5, 0, 3), [0, 3])
        self.assertEqual(self.ok(6, 1, 3), [0, 0])
        self.assertEqual(self.ok(10, 0, 1, 3), [0, 0])
        self.ok(7, 0)
        self.ok(9, 0, 1)
        self.ok(8, 0, 0)
        self.refused(-7, 8, 0, 1)
        self.refused(-2, 1, 1, 0, 0)

    def test_decks_owners_and_faces(self):
        self.assertEqual(self.ok(0, 2, 3, 77, 5, 9, 0, MOST, 4, 4), [0])
        self.assert_zone(0, [1, 2])
        self.assert_zone(1, [3, 4, 5])
        self.assertEqual(self.game.faces(0), [9, 0])
        self.assertEqual(self.game.faces(1), [MOST, 4, 4])
        pieces = self.game.state.pieces
        self.assertEqual([pieces[number].owner for number in range(1, 6)], [0, 0, 1, 1, 1])
        self.assertEqual([pieces[number].card for number in range(1, 6)], [1, 2, 3, 4, 5])
        state = self.game.state
        self.assertEqual((state.last, state.cap, state.chance), (5, 5, 77))
        self.assert_known([], [])

    def test_one_side_alone(self):
        self.game.begin(0, 2)
        self.assert_zone(0, [])
        self.assert_zone(1, [1, 2])
        self.game.begin(2, 0)
        self.assert_zone(0, [1, 2])
        self.assert_zone(1, [])

    def test_everything_is_new(self):
        self.game.begin(3, 3, 5)
        self.ok(5, 0, 2)
        self.ok(3, 0, 7, 3)
        self.ok(6, 1, 1)
        self.ok(10, 0, 1, 2)
        self.ok(7, 0)
        self.game.begin(1, 1, 6, 2)
        again = self.game.snapshot()
        self.setUp()
        self.game.begin(1, 1, 6, 2)
        self.assertEqual(again, self.game.snapshot())

    def test_numbers_are_given_anew(self):
        self.game.begin(1, 0)
        self.ok(5, 0, 1)
        self.refused(-3, 11, 1)
        self.game.begin(1, 0)
        self.ok(11, 1)
        self.refused(-2, 11, 2)

    def test_ends_of_the_ranges(self):
        self.assertEqual(self.game.begin(250, 250, GREATEST_NUMBER, 20000), [0])
        self.assertEqual(len(self.game.zone(0)), 250)
        self.assertEqual(len(self.game.zone(1)), 250)
        self.assertEqual(self.game.begin(250, 250, 0, 500), [0])

    def test_beyond_the_ranges(self):
        self.game.begin(2, 1, 3, 9)
        self.refused(-1, 0, 251, 0, 0, 20000, *([1] * 251))
        self.refused(-1, 0, 0, 251, 0, 20000, *([1] * 251))
        self.refused(-1, 0, -1, 0, 0, 0)
        self.refused(-1, 0, 0, -1, 0, 0)
        self.refused(-1, 0, -1, 2, 0, 20, 5)
        self.refused(-1, 0, 2, -1, 0, 20, 5)
        self.refused(-1, 0, 1, 0, -1, 20, 5)
        self.refused(-1, 0, 1, 0, LEAST_NUMBER, 20, 5)
        self.refused(-1, 0, 1, 0, 0, 20001, 5)
        self.refused(-1, 0, 1, 0, 0, GREATEST_NUMBER, 5)

    def test_cap_below_the_cards(self):
        self.refused(-1, 0, 1, 2, 0, 2, 5, 5, 5)
        self.refused(-1, 0, 0, 0, 0, -1)
        self.ok(0, 1, 2, 0, 3, 5, 5, 5)

    def test_faces_beyond_the_range(self):
        self.refused(-1, 0, 1, 1, 0, 20, -1, 5)
        self.refused(-1, 0, 1, 1, 0, 20, 5, MOST + 1)
        self.ok(0, 1, 1, 0, 20, 0, MOST)

    def test_fewer_and_more_faces_than_cards(self):
        self.refused(-1, 0, 1, 1, 0, 20, 5)
        self.refused(-1, 0, 1, 1, 0, 20)
        self.refused(-1, 0, 1, 1, 0, 20, 5, 5, 5)
        self.refused(-1, 0, 0, 0, 0, 20, 5)
        self.refused(-1, 0, 250, 250, 0, 20000, *([1] * 499))
        self.refused(-1, 0, 250, 250, 0, 20000, *([1] * 501))
        self.refused(-1, 0, 250, 250, 0, 20000, *([1] * 600))
