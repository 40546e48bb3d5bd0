"""What each side knows after each call."""

from tests.helper import GameCase


class AfterPut(GameCase):
    def test_those_who_saw_follow(self):
        self.game.begin(3, 0)
        self.ok(12, 1, 2)
        self.ok(1, 2, 0, 2)
        self.assert_known([], [4])
        self.ok(1, 1, 0, 2)
        self.assert_known([], [4])

    def test_from_the_open_into_hiding(self):
        self.game.begin(2, 1)
        self.ok(6, 0, 2)
        self.ok(1, 4, 0, 0)
        self.assert_known([6], [6])
        self.ok(1, 5, 1, 0)
        self.assert_known([6], [6, 7])

    def test_from_hiding_into_the_open(self):
        self.game.begin(4, 0)
        self.ok(11, 1)
        self.ok(11, 2)
        self.ok(11, 3)
        self.ok(11, 4)
        for number, kind in ((1, 2), (2, 3), (3, 4), (4, 5)):
            self.ok(1, number, kind, 0)
        self.assert_known([], [])
        self.assertEqual(self.game.seen(0), [5, 6, 7, 8])
        self.assertEqual(self.game.seen(1), [5, 6, 7, 8])

    def test_from_a_hand_into_the_deck(self):
        self.game.begin(2, 0)
        self.ok(5, 0, 2)
        self.ok(12, 1, 4)
        self.ok(1, 3, 0, 0)
        self.assert_known([5], [4])
        self.ok(1, 4, 0, 0)
        self.assert_known([5, 6], [6])

    def test_a_face_down_one_into_a_hand_again(self):
        self.game.begin(0, 1)
        self.ok(5, 1, 1)
        self.ok(3, 1, 2, 3)
        self.ok(1, 3, 1, 0)
        self.assert_known([], [])
        self.ok(1, 4, 3, 0)
        self.ok(1, 5, 1, 0)
        self.assert_known([6], [])

    def test_a_face_down_one_onto_the_field_is_seen(self):
        self.game.begin(1, 0)
        self.ok(5, 0, 1)
        self.ok(3, 0, 2, 5)
        self.assertEqual(self.game.seen(1), [])
        self.ok(1, 3, 5, 0)
        self.assert_known([], [])
        self.assertEqual(self.game.seen(1), [4])

    def test_face_down_to_deck_followed_only_by_its_knower(self):
        self.game.begin(1, 0)
        self.ok(5, 0, 1)
        self.ok(3, 0, 2, 3)
        self.ok(1, 3, 0, 0)
        self.assert_known([4], [])


class AfterAwayAndDown(GameCase):
    def start(self):
        """Side 1 knows all three cards in the hand of side 0, one of its deck, and one of its own deck."""
        self.game.begin(5, 2)
        self.ok(5, 0, 3)
        for number in (8, 9, 10, 4):
            self.ok(12, 1, number)
        self.ok(12, 1, 6)
        self.ok(12, 0, 5)
        self.assert_known([5], [4, 6, 8, 9, 10])

    def test_away(self):
        self.start()
        self.ok(2, 0, 9, 1)
        self.assert_zone(0, [4, 11, 5])
        self.assert_known([5, 11], [4, 6])
        self.assertEqual(self.game.seen(0), [5, 8, 10, 11])

    def test_down(self):
        for kind in (3, 5):
            self.start()
            self.ok(3, 0, 8, kind)
            self.assert_known([5, 11], [4, 6])
            self.assertEqual(self.ok(21, 1, 11), [0, 0])
            self.assertEqual(self.ok(21, 0, 11), [0, 1, 101])

    def test_away_and_down_of_the_second_side(self):
        for code, behind in ((2, 0), (3, 3)):
            self.game.begin(2, 3)
            self.ok(5, 1, 2)
            self.ok(5, 0, 1)
            self.ok(11, 6)
            self.ok(11, 7)
            self.ok(11, 8)
            self.assert_known([6, 7], [8])
            self.ok(code, 1, 6, behind)
            self.assert_known([], [8, 9])

    def test_what_lies_face_down_already_stays_known(self):
        self.game.begin(3, 0)
        self.ok(5, 0, 3)
        self.ok(3, 0, 4, 3)
        self.ok(12, 1, 7)
        self.ok(3, 0, 5, 3)
        self.assert_known([7, 8], [7])
        self.ok(2, 0, 6, 0)
        self.assert_known([7, 8, 9], [7])

    def test_refused_forgets_nothing(self):
        self.start()
        self.refused(-4, 2, 0, 4, 0)
        self.refused(-1, 3, 0, 8, 4)
        self.assert_known([5], [4, 6, 8, 9, 10])


class AfterUp(GameCase):
    def test_leaves_both_sets(self):
        self.game.begin(2, 0)
        self.ok(5, 0, 2)
        self.ok(3, 0, 3, 3)
        self.ok(3, 0, 4, 3)
        self.ok(12, 1, 5)
        self.assert_known([5, 6], [5])
        self.ok(4, 5)
        self.assert_known([6], [])
        self.assertEqual(self.game.seen(1), [5])
        self.ok(4, 6)
        self.assert_known([], [])
        self.assertEqual(self.game.seen(1), [5, 6])


class AfterDrawAndMill(GameCase):
    def test_draw(self):
        self.game.begin(3, 0)
        self.ok(12, 1, 1)
        self.ok(12, 0, 2)
        self.ok(12, 0, 3)
        self.ok(5, 0, 2)
        self.assert_known([3], [4])
        self.assertEqual(self.game.seen(0), [3, 4, 5])
        self.assertEqual(self.game.seen(1), [4])

    def test_draw_of_the_second_side(self):
        self.game.begin(0, 2)
        self.ok(10, 0, 1, 1)
        self.ok(10, 1, 1, 2)
        self.ok(5, 1, 2)
        self.assert_known([3], [])

    def test_mill(self):
        self.game.begin(3, 0)
        self.ok(10, 0, 0, 3)
        self.ok(10, 1, 0, 1)
        self.ok(6, 0, 2)
        self.assert_known([3], [])
        self.assertEqual(self.game.seen(1), [4, 5])


class AfterShuffleAndCut(GameCase):
    def test_shuffle_forgets_this_deck_alone(self):
        self.game.begin(3, 2)
        self.ok(10, 0, 0, 3)
        self.ok(10, 1, 0, 3)
        self.ok(10, 0, 1, 1)
        self.ok(10, 1, 1, 1)
        self.ok(5, 0, 1)
        self.ok(7, 0)
        self.assert_known([4], [4, 6])

    def test_shuffle_of_one_forgets_it_too(self):
        self.game.begin(1, 0)
        self.ok(11, 1)
        self.ok(7, 0)
        self.assert_known([], [])

    def test_cut_keeps_all(self):
        self.game.begin(3, 1)
        self.ok(12, 0, 1)
        self.ok(12, 1, 3)
        self.ok(8, 0, 2)
        self.assert_known([1], [3])


class AfterOrder(GameCase):
    def test_the_one_who_orders_follows_what_it_saw(self):
        self.game.begin(4, 1)
        self.ok(10, 0, 0, 2)
        self.ok(10, 1, 0, 4)
        self.ok(12, 0, 4)
        self.ok(9, 0, 0, 3, 1, 2)
        self.assert_zone(0, [6, 7, 8, 4])
        self.assert_known([4, 7, 8], [4])

    def test_by_the_other_side(self):
        self.game.begin(0, 3)
        self.ok(10, 1, 1, 3)
        self.ok(10, 0, 1, 1)
        self.ok(9, 0, 1, 2, 1)
        self.assert_known([5], [3])

    def test_one_who_sees_nothing_learns_nothing(self):
        self.game.begin(2, 0)
        self.ok(9, 1, 0, 2, 1)
        self.assert_known([], [])

    def test_none_named_forgets_nothing(self):
        self.game.begin(2, 0)
        self.ok(11, 1)
        self.ok(9, 0, 0)
        self.assert_known([1], [1])


class AfterPeekShowLook(GameCase):
    def test_peek(self):
        self.game.begin(3, 2)
        self.ok(10, 0, 0, 2)
        self.assert_known([1, 2], [])
        self.ok(10, 1, 0, 0)
        self.assert_known([1, 2], [])
        self.ok(10, 1, 0, 250)
        self.assert_known([1, 2], [1, 2, 3])
        self.ok(10, 1, 1, 1)
        self.assert_known([1, 2], [1, 2, 3, 4])

    def test_peek_goes_by_the_order_of_now(self):
        self.game.begin(3, 0)
        self.ok(8, 0, 1)
        self.ok(10, 0, 0, 1)
        self.assert_known([2], [])

    def test_show(self):
        self.game.begin(3, 0)
        self.ok(5, 0, 1)
        self.ok(11, 4)
        self.assert_known([], [4])
        self.ok(11, 2)
        self.assert_known([2], [2, 4])
        self.ok(6, 0, 1)
        self.ok(11, 5)
        self.assert_known([], [4])

    def test_show_face_down(self):
        self.game.begin(1, 0)
        self.ok(5, 0, 1)
        self.ok(3, 0, 2, 5)
        self.ok(11, 3)
        self.assert_known([3], [3])

    def test_look(self):
        self.game.begin(2, 2)
        self.ok(12, 0, 1)
        self.assert_known([1], [])
        self.ok(12, 1, 3)
        self.assert_known([1], [3])
        self.ok(5, 1, 1)
        self.assert_known([1], [])
        self.ok(12, 1, 5)
        self.assert_known([1], [])
        self.ok(12, 0, 5)
        self.assert_known([1, 5], [])

    def test_look_at_what_lies_open(self):
        self.game.begin(1, 0)
        self.ok(6, 0, 1)
        self.ok(12, 1, 2)
        self.assert_known([], [])
