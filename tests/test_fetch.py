"""The call fetch: where the object goes, who follows, what is forgotten, and the refusals."""

from tests.helper import MOST, GameCase, play

SIDE = (0, 1)
OBJECT = (0, MOST)


class Fetch(GameCase):
    def test_out_of_the_own_deck(self):
        self.game.begin(3, 1)
        self.ok(12, 0, 2)
        self.assertEqual(self.ok(19, 0, 2), [0])
        self.assert_zone(0, [1, 3])
        self.assertEqual(self.game.truth(2), [(5, 102)])
        self.assert_known([], [])
        self.assertEqual(self.game.view(0, 2), [(5, 102)])
        self.assertEqual(self.game.view(1, 2), [(0, -1)])

    def test_at_the_end_of_the_hand(self):
        self.game.begin(2, 0)
        self.ok(5, 0, 1)
        self.ok(11, 2)
        self.ok(19, 0, 2)
        self.assert_zone(2, [3, 4])

    def test_side_s_alone_follows(self):
        for side in SIDE:
            self.game.begin(3, 3)
            own = 1 + 3 * side
            self.ok(11, own)
            self.ok(19, side, own)
            self.assert_known([], [])
            self.assertEqual(self.game.seen(side), [7])
            self.assertEqual(self.game.seen(1 - side), [])

    def test_the_other_side_knows_nothing_of_that_deck_any_more(self):
        self.game.begin(4, 2)
        for number in (1, 2, 3, 5):
            self.ok(11, number)
        self.ok(5, 0, 1)
        self.assert_known([2, 3, 5], [2, 3, 5, 7])
        self.ok(19, 0, 3)
        self.assert_known([2, 5], [5, 7])
        self.assertEqual(self.game.view(1, 2), [(7, 101), (0, -1)])
        self.assertEqual(self.game.view(1, 0), [(0, -1), (0, -1)])

    def test_its_own_deck_out_of_which_the_other_one_fetched(self):
        self.game.begin(2, 3)
        for number in (1, 3, 4, 5):
            self.ok(11, number)
        self.ok(19, 0, 4)
        self.assertEqual(self.game.truth(3), [(6, 104)])
        self.assert_known([1, 3, 5, 6], [1])
        self.assert_seen([1, 3, 5, 6], [1, 6])

    def test_seen_by_its_owner_in_its_own_hand(self):
        self.game.begin(0, 2)
        self.ok(12, 0, 1)
        self.ok(19, 0, 1)
        self.assert_known([3], [])
        self.assertEqual(self.game.view(1, 3), [(3, 101)])
        self.assertEqual(self.game.view(0, 3), [(3, 101)])

    def test_what_lies_face_down_or_in_a_hand_stays_known(self):
        self.game.begin(4, 0)
        self.ok(5, 0, 2)
        self.ok(3, 0, 5, 3)
        self.ok(11, 7)
        self.ok(11, 6)
        self.ok(11, 3)
        self.ok(19, 0, 3)
        self.assert_known([7], [6, 7])

    def test_ranges(self):
        self.game.begin(1, 1)
        self.ok(11, 1)
        self.ok(11, 2)
        self.refuse_beyond(19, (0, 1), (SIDE, OBJECT))
        self.refused(-2, 19, 0, 0)
        self.refused(-2, 19, 0, MOST)
        self.ok(19, 0, 1)
        self.ok(19, 1, 2)

    def test_never_given_and_gone(self):
        self.game.begin(2, 0)
        self.ok(5, 0, 1)
        self.refused(-2, 19, 0, 0)
        self.refused(-2, 19, 0, 4)
        self.refused(-3, 19, 0, 1)

    def test_elsewhere(self):
        self.game.begin(8, 0)
        for kind in (1, 2, 3, 4, 5):
            self.ok(1, self.game.zone(0)[0], kind, 0)
            self.refused(-4, 19, 0, self.game.state.last)
            self.refused(-4, 19, 1, self.game.state.last)
        self.ok(5, 0, 1)
        for kind in (3, 5):
            self.ok(5, 0, 1)
            self.ok(3, 0, self.game.state.last, kind)
            self.refused(-4, 19, 0, self.game.state.last)
            self.refused(-4, 19, 1, self.game.state.last)

    def test_elsewhere_is_nearer_than_not_seen(self):
        self.game.begin(1, 1)
        self.ok(5, 0, 1)
        self.assertEqual(self.game.seen(1), [])
        self.refused(-4, 19, 1, 3)
        self.refused(-6, 19, 1, 2)

    def test_not_seen(self):
        self.game.begin(2, 1)
        self.refused(-6, 19, 0, 1)
        self.ok(12, 1, 1)
        self.refused(-6, 19, 0, 1)
        self.ok(12, 0, 2)
        self.refused(-6, 19, 0, 1)
        self.refused(-6, 19, 1, 2)
        self.refused(-6, 19, 0, 3)
        self.ok(19, 1, 1)

    def test_cap(self):
        self.game.begin(2, 0, 0, 3)
        self.ok(11, 1)
        self.ok(11, 2)
        self.ok(19, 0, 1)
        self.refused(-8, 19, 0, 2)

    def test_nearest_to_zero(self):
        self.game.begin(3, 0, 0, 4)
        self.ok(5, 0, 1)
        self.ok(12, 0, 2)
        self.refused(-1, 19, 2, 5)
        self.refused(-1, 19, -1, 1)
        self.refused(-2, 19, 1, 5)
        self.refused(-3, 19, 1, 1)
        self.refused(-4, 19, 1, 4)
        self.refused(-6, 19, 1, 2)
        self.refused(-8, 19, 0, 2)

    def test_as_a_line(self):
        self.assertEqual(play((0, 2, 0, 0, 9, 4, 5), (19, 0, 2), (11, 2), (11, 1), (19, 0, 2), (22, 0), (22, 1),
                              (24, 2)),
                         [[0], [-6], [0], [0], [0], [0, 1], [0], [0, 3, 5]])
