"""The calls view, knows, known, rest and truth: what they tell, and the refusals."""

from tests.helper import MOST, ZONES, GameCase, play

SIDE = (0, 1)
OBJECT = (0, MOST)
ZONE = (0, 8)


class Told(GameCase):
    """One table with something seen and something hidden wherever there can be both."""

    def setUp(self):
        super().setUp()
        self.game.begin(8, 7)
        self.ok(5, 0, 4)                # 16 17 18 19, of the cards 1 to 4
        self.ok(5, 1, 4)                # 20 21 22 23, of the cards 9 to 12
        self.ok(3, 0, 16, 3)            # 24 on the field
        self.ok(3, 1, 20, 3)            # 25 on the field
        self.ok(3, 0, 17, 5)            # 26 in the rift
        self.ok(3, 1, 21, 5)            # 27 in the rift
        self.ok(12, 1, 24)
        self.ok(12, 0, 27)
        self.ok(12, 1, 18)
        self.ok(12, 0, 23)
        self.ok(12, 0, 6)
        self.ok(12, 1, 7)
        self.ok(12, 0, 13)
        self.ok(12, 1, 14)
        self.ok(1, 8, 3, 0)             # 28 on the field, open
        self.ok(1, 15, 5, 0)            # 29 in the rift, open
        self.ok(6, 0, 1)                # 30 in the void of side 0
        self.ok(18, 1, 77, 1)           # 31 on the field, a token
        self.ok(1, 7, 4, 0)             # 32 on the stack
        self.ok(6, 1, 1)                # 33 in the void of side 1

    def test_truth_of_each_zone(self):
        told = [self.ok(24, zone) for zone in ZONES]
        self.assertEqual(told, [
            [0, 6, 106],
            [0, 14, 114],
            [0, 18, 103, 19, 104],
            [0, 22, 111, 23, 112],
            [0, 30, 105],
            [0, 33, 113],
            [0, 24, 101, 25, 109, 28, 108, 31, 77],
            [0, 32, 107],
            [0, 26, 102, 27, 110, 29, 115],
        ])

    def test_view_of_each_zone_by_side_0(self):
        told = [self.ok(20, 0, zone) for zone in ZONES]
        self.assertEqual(told, [
            [0, 6, 106],
            [0, 0, -1],
            [0, 18, 103, 19, 104],
            [0, 0, -1, 23, 112],
            [0, 30, 105],
            [0, 33, 113],
            [0, 24, 101, 25, -1, 28, 108, 31, 77],
            [0, 32, 107],
            [0, 26, 102, 27, 110, 29, 115],
        ])

    def test_view_of_each_zone_by_side_1(self):
        told = [self.ok(20, 1, zone) for zone in ZONES]
        self.assertEqual(told, [
            [0, 0, -1],
            [0, 14, 114],
            [0, 18, 103, 0, -1],
            [0, 22, 111, 23, 112],
            [0, 30, 105],
            [0, 33, 113],
            [0, 24, 101, 25, 109, 28, 108, 31, 77],
            [0, 32, 107],
            [0, 26, -1, 27, 110, 29, 115],
        ])

    def test_knows_of_each_object(self):
        by_side = {0: (6, 18, 19, 23, 24, 26, 27, 28, 29, 30, 31, 32, 33),
                   1: (14, 18, 22, 23, 24, 25, 27, 28, 29, 30, 31, 32, 33)}
        faces = dict(pair for zone in ZONES for pair in self.game.truth(zone))
        self.assertEqual(len(faces), 16)
        for side in SIDE:
            for number, face in faces.items():
                expected = [0, 1, face] if number in by_side[side] else [0, 0]
                self.assertEqual(self.ok(21, side, number), expected)

    def test_known(self):
        self.assertEqual(self.ok(22, 0), [0, 6, 23, 24, 26, 27])
        self.assertEqual(self.ok(22, 1), [0, 14, 18, 24, 25, 27])

    def test_rest(self):
        self.assertEqual(self.ok(23, 0), [0])
        self.assertEqual(self.ok(23, 1), [0])
        self.ok(7, 0)
        self.ok(7, 1)
        self.assertEqual(self.ok(23, 0), [0, 106])
        self.assertEqual(self.ok(23, 1), [0, 114])

    def test_asking_changes_nothing(self):
        before = self.game.snapshot()
        for side in SIDE:
            self.ok(22, side)
            self.ok(23, side)
            for zone in ZONES:
                self.ok(20, side, zone)
            for number in self.game.live():
                self.ok(21, side, number)
        for zone in ZONES:
            self.ok(24, zone)
        self.assertEqual(self.game.snapshot(), before)

    def test_asked_at_the_cap(self):
        self.game.begin(1, 0, 0, 1)
        self.assertEqual(self.ok(20, 0, 0), [0, 0, -1])
        self.assertEqual(self.ok(21, 0, 1), [0, 0])
        self.assertEqual(self.ok(22, 0), [0])
        self.assertEqual(self.ok(23, 0), [0, 101])
        self.assertEqual(self.ok(24, 0), [0, 1, 101])


class View(GameCase):
    def test_empty_zones_before_any_begin(self):
        for side in SIDE:
            for zone in ZONES:
                self.assertEqual(self.ok(20, side, zone), [0])

    def test_a_face_of_0_that_is_seen(self):
        self.ok(0, 2, 0, 0, 9, 0, 0)
        self.ok(12, 0, 2)
        self.assertEqual(self.ok(20, 0, 0), [0, 0, -1, 2, 0])
        self.assertEqual(self.ok(20, 1, 0), [0, 0, -1, 0, -1])

    def test_in_the_order_of_the_list(self):
        self.game.begin(3, 0)
        self.ok(11, 1)
        self.ok(11, 3)
        self.ok(8, 0, 2)
        self.assertEqual(self.ok(20, 1, 0), [0, 3, 103, 1, 101, 0, -1])
        self.ok(6, 0, 3)
        self.assertEqual(self.ok(20, 1, 4), [0, 6, 102, 5, 101, 4, 103])

    def test_a_face_down_one_that_is_turned_up(self):
        self.game.begin(1, 0)
        self.ok(5, 0, 1)
        self.ok(3, 0, 2, 5)
        self.assertEqual(self.ok(20, 1, 8), [0, 3, -1])
        self.ok(4, 3)
        self.assertEqual(self.ok(20, 1, 8), [0, 3, 101])

    def test_ranges(self):
        self.game.begin(1, 1)
        self.refuse_beyond(20, (0, 0), (SIDE, ZONE))
        self.refused(-1, 20, 2, 9)
        self.ok(20, 0, 0)
        self.ok(20, 1, 8)


class Knows(GameCase):
    def test_a_face_of_0(self):
        self.ok(0, 1, 0, 0, 9, 0)
        self.assertEqual(self.ok(21, 0, 1), [0, 0])
        self.ok(12, 0, 1)
        self.assertEqual(self.ok(21, 0, 1), [0, 1, 0])
        self.assertEqual(self.ok(21, 1, 1), [0, 0])

    def test_ranges(self):
        self.game.begin(1, 1)
        self.refuse_beyond(21, (0, 1), (SIDE, OBJECT))
        self.ok(21, 0, 1)
        self.ok(21, 1, 2)

    def test_never_given_and_gone(self):
        self.game.begin(1, 1)
        self.ok(6, 0, 1)
        self.refused(-2, 21, 0, 0)
        self.refused(-2, 21, 1, 4)
        self.refused(-2, 21, 1, MOST)
        self.refused(-3, 21, 0, 1)
        self.refused(-3, 21, 1, 1)
        self.assertEqual(self.ok(21, 1, 3), [0, 1, 101])

    def test_nearest_to_zero(self):
        self.game.begin(1, 1)
        self.ok(6, 0, 1)
        self.refused(-1, 21, 2, 0)
        self.refused(-1, 21, -1, 1)
        self.refused(-1, 21, 0, MOST + 1)


class Known(GameCase):
    def test_the_least_first(self):
        self.game.begin(4, 2)
        for number in (6, 3, 1, 5):
            self.ok(12, 0, number)
        self.assertEqual(self.ok(22, 0), [0, 1, 3, 5, 6])
        self.ok(8, 0, 3)
        self.assertEqual(self.ok(22, 0), [0, 1, 3, 5, 6])
        self.assertEqual(self.ok(22, 1), [0])

    def test_neither_open_ones_nor_the_own_hand(self):
        self.game.begin(2, 2)
        self.ok(5, 0, 1)
        self.ok(6, 0, 1)
        self.ok(13, 2, 0)
        self.ok(11, 6)
        self.assertEqual(self.ok(22, 0), [0])
        self.assertEqual(self.ok(22, 1), [0, 5])

    def test_ranges(self):
        self.game.begin(1, 1)
        self.refuse_beyond(22, (0,), (SIDE,))
        self.ok(22, 0)
        self.ok(22, 1)


class Rest(GameCase):
    def test_the_least_first_as_often_as_there_are_such(self):
        self.ok(0, 5, 3, 0, 99, 9, 2, 9, 0, 2, 4, 4, 1)
        self.assertEqual(self.ok(23, 0), [0, 0, 2, 2, 9, 9])
        self.assertEqual(self.ok(23, 1), [0, 1, 4, 4])
        self.ok(12, 0, 3)
        self.assertEqual(self.ok(23, 0), [0, 0, 2, 2, 9])
        self.ok(12, 1, 1)
        self.assertEqual(self.ok(23, 0), [0, 0, 2, 2, 9])
        self.assertEqual(self.ok(23, 1), [0, 1, 4, 4])

    def test_a_hand_of_its_own_is_seen(self):
        self.ok(0, 2, 2, 0, 99, 5, 6, 7, 8)
        self.ok(5, 0, 1)
        self.ok(5, 1, 2)
        self.assertEqual(self.ok(23, 0), [0, 6])
        self.assertEqual(self.ok(23, 1), [0])

    def test_open_and_face_down_ones_are_seen(self):
        self.ok(0, 3, 0, 0, 99, 5, 6, 7)
        self.ok(6, 0, 1)
        self.ok(5, 0, 1)
        self.ok(3, 0, 5, 3)
        self.assertEqual(self.ok(23, 0), [0, 7])

    def test_what_was_known_and_was_shuffled(self):
        self.ok(0, 2, 0, 0, 99, 6, 5)
        self.ok(10, 0, 0, 2)
        self.assertEqual(self.ok(23, 0), [0])
        self.ok(7, 0)
        self.assertEqual(self.ok(23, 0), [0, 5, 6])

    def test_ranges(self):
        self.game.begin(1, 1)
        self.refuse_beyond(23, (0,), (SIDE,))
        self.ok(23, 0)
        self.ok(23, 1)


class Truth(GameCase):
    def test_empty_zones_before_any_begin(self):
        for zone in ZONES:
            self.assertEqual(self.ok(24, zone), [0])

    def test_ranges(self):
        self.game.begin(1, 1)
        self.refuse_beyond(24, (0,), (ZONE,))
        self.ok(24, 0)
        self.ok(24, 8)

    def test_as_a_line(self):
        self.assertEqual(play((0, 1, 1, 0, 9, 4, 5), (24, 1), (20, 1, 1), (21, 1, 2), (12, 1, 2), (20, 1, 1),
                              (21, 1, 2), (22, 1), (23, 1), (23, 0), (24, 9), (20, 0, 9), (21, 0, 3)),
                         [[0], [0, 2, 5], [0, 0, -1], [0, 0], [0], [0, 2, 5], [0, 1, 5], [0, 2], [0], [0, 4],
                          [-1], [-1], [-2]])
