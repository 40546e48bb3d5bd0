"""The calls draw, mill, shuffle, cut, order and peek: where things lie afterwards, and the refusals."""

from tests.helper import GREATEST_NUMBER, LEAST_NUMBER, MOST, GameCase

SIDE = (0, 1)
COUNT = (0, 250)


class Draw(GameCase):
    def test_from_the_top_to_the_end_of_the_hand(self):
        self.game.begin(4, 2)
        self.assertEqual(self.ok(5, 0, 2), [0, 0])
        self.assert_zone(0, [3, 4])
        self.assert_zone(2, [7, 8])
        self.assertEqual(self.game.faces(2), [101, 102])
        self.assertEqual(self.ok(5, 1, 1), [0, 0])
        self.assert_zone(3, [9])
        self.assert_zone(1, [6])

    def test_none_asked_for(self):
        self.game.begin(1, 0, 0, 1)
        self.assertEqual(self.ok(5, 0, 0), [0, 0])
        self.assert_zone(0, [1])

    def test_a_deck_with_fewer_and_an_empty_one(self):
        self.game.begin(2, 0)
        self.assertEqual(self.ok(5, 0, 5), [0, 3])
        self.assert_zone(2, [3, 4])
        self.assertEqual(self.ok(5, 0, 250), [0, 250])
        self.assertEqual(self.ok(5, 1, 0), [0, 0])
        self.assertEqual(self.game.state.last, 4)

    def test_ranges(self):
        self.game.begin(1, 1)
        self.refuse_beyond(5, (0, 1), (SIDE, COUNT))
        self.assertEqual(self.ok(5, 1, 250), [0, 249])

    def test_cap(self):
        self.game.begin(3, 3, 0, 8)
        self.refused(-8, 5, 0, 3)
        self.refused(-8, 5, 0, 250)
        self.assertEqual(self.ok(5, 0, 2), [0, 0])
        self.refused(-8, 5, 0, 1)
        self.refused(-1, 5, 2, 1)
        self.assertEqual(self.ok(5, 0, 0), [0, 0])

    def test_cap_counts_only_what_the_deck_has(self):
        self.game.begin(2, 1, 0, 5)
        self.assertEqual(self.ok(5, 0, 250), [0, 248])
        self.assertEqual(self.ok(5, 0, 250), [0, 250])
        self.refused(-8, 5, 1, 250)


class Mill(GameCase):
    def test_from_the_top_to_the_beginning_of_the_void(self):
        self.game.begin(4, 2)
        self.assertEqual(self.ok(6, 0, 2), [0, 2])
        self.assert_zone(0, [3, 4])
        self.assert_zone(4, [8, 7])
        self.assertEqual(self.game.faces(4), [102, 101])
        self.assertEqual(self.ok(6, 1, 1), [0, 1])
        self.assert_zone(5, [9])

    def test_none_fewer_and_empty(self):
        self.game.begin(2, 0)
        self.assertEqual(self.ok(6, 0, 0), [0, 0])
        self.assertEqual(self.ok(6, 0, 3), [0, 2])
        self.assertEqual(self.ok(6, 0, 250), [0, 0])
        self.assertEqual(self.ok(6, 1, 1), [0, 0])

    def test_ranges(self):
        self.game.begin(1, 1)
        self.refuse_beyond(6, (0, 1), (SIDE, COUNT))
        self.assertEqual(self.ok(6, 1, 250), [0, 1])

    def test_cap(self):
        self.game.begin(3, 0, 0, 5)
        self.refused(-8, 6, 0, 3)
        self.refused(-8, 6, 0, 250)
        self.assertEqual(self.ok(6, 0, 2), [0, 2])
        self.refused(-8, 6, 0, 1)
        self.refused(-1, 6, 0, 251)
        self.assertEqual(self.ok(6, 0, 0), [0, 0])
        self.game.begin(3, 0, 0, 6)
        self.assertEqual(self.ok(6, 0, 250), [0, 3])


class Shuffle(GameCase):
    def test_worked_by_hand_from_seed_0(self):
        # Chance goes on to these; divided by 8589934592 they make the numbers in brackets:
        #  1442695040888963407 ( 167951807), modulo 5: 2   1 2 5 4 3
        #  1876011003808476466 ( 218396424), modulo 4: 0   4 2 5 1 3
        # 11166244414315200793 (1299921937), modulo 3: 1   4 5 2 1 3
        #  7401132627792533940 ( 861605236), modulo 2: 0   5 4 2 1 3
        self.game.begin(5, 3)
        self.assertEqual(self.ok(7, 0), [0])
        self.assert_zone(0, [9, 10, 11, 12, 13])
        self.assertEqual(self.game.faces(0), [105, 104, 102, 101, 103])
        self.assertEqual(self.game.state.chance, 7401132627792533940)
        # And on from there, for the other deck, where each is exchanged with itself:
        #  7076646890315895283 ( 823830125), modulo 3: 2
        # 10346034117385188870 (1204436891), modulo 2: 1
        self.ok(7, 1)
        self.assert_zone(1, [14, 15, 16])
        self.assertEqual(self.game.faces(1), [106, 107, 108])
        self.assertEqual(self.game.state.chance, 10346034117385188870)

    def test_worked_by_hand_from_the_greatest_seed(self):
        #  4301930853896946210 ( 500810664), modulo 5: 4   1 2 3 4 5
        #  3578485316352917321 ( 416590519), modulo 4: 3   1 2 3 4 5
        #  1148996983546796068 ( 133760853), modulo 3: 0   3 2 1 4 5
        # 16963054312541248419 (1974759426), modulo 2: 0   2 3 1 4 5
        self.game.begin(0, 5, GREATEST_NUMBER)
        self.ok(7, 1)
        self.assertEqual(self.game.faces(1), [102, 103, 101, 104, 105])
        self.assert_zone(1, [6, 7, 8, 9, 10])
        self.assertEqual(self.game.state.chance, 16963054312541248419)

    def test_chance_alone(self):
        self.game.begin(0, 0, 1)
        # 7806831264735756412 (908834774), 9396908728118811419 (1093944153)
        self.assertEqual(self.game.state.draw_below(250), 24)
        self.assertEqual(self.game.state.chance, 7806831264735756412)
        self.assertEqual(self.game.state.draw_below(1000), 153)
        self.assertEqual(self.game.state.draw_below(1), 0)

    def test_decks_of_none_and_one(self):
        self.game.begin(0, 1, 44, 2)
        self.ok(7, 0)
        self.assertEqual((self.game.state.last, self.game.state.chance), (1, 44))
        self.ok(7, 1)
        self.assert_zone(1, [2])
        self.assertEqual((self.game.state.last, self.game.state.chance), (2, 44))
        self.refused(-3, 11, 1)

    def test_every_object_is_new_and_other_zones_stay(self):
        self.game.begin(6, 2, 8)
        self.ok(5, 0, 1)
        self.ok(6, 0, 1)
        self.ok(7, 0)
        self.assert_zone(0, [11, 12, 13, 14])
        self.assertEqual(sorted(self.game.faces(0)), [103, 104, 105, 106])
        self.assert_zone(1, [7, 8])
        self.assert_zone(2, [9])
        self.assert_zone(4, [10])
        for number in (3, 4, 5, 6):
            self.refused(-3, 11, number)

    def test_ranges_and_cap(self):
        self.game.begin(2, 3, 9, 7)
        self.refuse_beyond(7, (0,), (SIDE,))
        self.refused(-8, 7, 1)
        self.ok(7, 0)
        self.refused(-8, 7, 0)
        self.refused(-1, 7, 2)

    def test_an_empty_deck_at_the_cap(self):
        self.game.begin(1, 0, 9, 1)
        self.refused(-8, 7, 0)
        self.ok(7, 1)


class Cut(GameCase):
    def test_the_top_goes_beneath(self):
        for count, deck in ((0, [1, 2, 3, 4]), (1, [2, 3, 4, 1]), (3, [4, 1, 2, 3]), (4, [1, 2, 3, 4])):
            self.game.begin(4, 0, 5, 4)
            self.assertEqual(self.ok(8, 0, count), [0])
            self.assert_zone(0, deck)
            self.assertEqual((self.game.state.last, self.game.state.chance), (4, 5))

    def test_the_second_deck(self):
        self.game.begin(2, 3)
        self.ok(8, 1, 1)
        self.assert_zone(1, [4, 5, 3])
        self.assert_zone(0, [1, 2])

    def test_fewer_than_asked_for(self):
        self.game.begin(3, 0)
        self.refused(-7, 8, 0, 4)
        self.refused(-7, 8, 0, 250)
        self.refused(-7, 8, 1, 1)
        self.ok(8, 1, 0)

    def test_ranges(self):
        self.game.begin(3, 250)
        self.refuse_beyond(8, (0, 1), (SIDE, COUNT))
        self.refused(-1, 8, 0, 251)
        self.ok(8, 1, 250)


class Order(GameCase):
    def test_new_numbers_in_the_order_named(self):
        self.game.begin(5, 1)
        self.assertEqual(self.ok(9, 0, 0, 3, 1, 2), [0])
        self.assert_zone(0, [7, 8, 9, 4, 5])
        self.assertEqual(self.game.faces(0), [103, 101, 102, 104, 105])
        for number in (1, 2, 3):
            self.refused(-3, 11, number)

    def test_by_the_other_side(self):
        self.game.begin(1, 3)
        self.ok(9, 0, 1, 4, 3, 2)
        self.assertEqual(self.game.faces(1), [104, 103, 102])
        self.assert_zone(1, [5, 6, 7])

    def test_in_the_order_that_was(self):
        self.game.begin(3, 0)
        self.ok(9, 1, 0, 1, 2)
        self.assert_zone(0, [4, 5, 3])
        self.assertEqual(self.game.faces(0), [101, 102, 103])

    def test_none_named(self):
        self.game.begin(2, 0, 0, 2)
        before = self.game.snapshot()
        self.assertEqual(self.ok(9, 0, 0), [0])
        self.assertEqual(self.ok(9, 1, 1), [0])
        self.assertEqual(self.game.snapshot(), before)

    def test_250_251_and_600_named(self):
        self.game.begin(250, 0)
        self.assertEqual(self.ok(9, 0, 0, *range(250, 0, -1)), [0])
        self.assert_zone(0, list(range(251, 501)))
        self.assertEqual(self.game.faces(0), list(range(350, 100, -1)))
        self.refused(-1, 9, 0, 0, *range(251, 502))
        self.refused(-1, 9, 0, 0, *([1] * 251))
        self.refused(-1, 9, 0, 0, *range(1, 601))
        self.refused(-1, 9, 0, 0, *([0] * 600))

    def test_ranges(self):
        self.game.begin(2, 2)
        self.refuse_beyond(9, (0, 0, 1), (SIDE, SIDE, (0, MOST)))
        self.refuse_beyond(9, (0, 0), (SIDE, SIDE))
        self.refused(-1, 9, 0, 0, 1, MOST + 1)
        self.refused(-1, 9, 0, 0, 1, LEAST_NUMBER)

    def test_never_given_and_gone(self):
        self.game.begin(4, 0)
        self.ok(6, 0, 1)
        self.refused(-2, 9, 0, 0, 0)
        self.refused(-2, 9, 0, 0, 2, 6)
        self.refused(-2, 9, 0, 0, MOST)
        self.refused(-3, 9, 0, 0, 1)
        self.refused(-3, 9, 0, 0, 2, 1)

    def test_named_twice(self):
        self.game.begin(3, 1)
        self.refused(-5, 9, 0, 0, 1, 1)
        self.refused(-5, 9, 0, 0, 1, 2, 1)
        self.refused(-5, 9, 0, 1, 1, 1)

    def test_not_the_top_ones(self):
        self.game.begin(3, 2)
        self.refused(-7, 9, 0, 0, 2)
        self.refused(-7, 9, 0, 0, 1, 3)
        self.refused(-7, 9, 0, 1, 1)
        self.refused(-7, 9, 0, 1, 4, 5, 1)
        self.ok(5, 0, 1)
        self.refused(-7, 9, 0, 0, 6)
        self.refused(-7, 9, 0, 0, 2, 3, 6)
        self.ok(9, 0, 0, 3, 2)

    def test_cap(self):
        self.game.begin(3, 0, 0, 5)
        self.refused(-8, 9, 0, 0, 1, 2, 3)
        self.ok(9, 0, 0, 2, 1)
        self.refused(-8, 9, 0, 0, 4)
        self.ok(9, 0, 0)

    def test_nearest_to_zero(self):
        self.game.begin(3, 0, 0, 4)
        self.ok(6, 0, 1)
        self.refused(-1, 9, 0, 2, 0, 1, 1)
        self.refused(-1, 9, 0, 0, 0, 1, -1)
        self.refused(-2, 9, 0, 0, 1, 5)
        self.refused(-2, 9, 0, 0, 5, 5)
        self.refused(-2, 9, 0, 0, 3, 3, 5)
        self.refused(-3, 9, 0, 0, 1, 1)
        self.refused(-3, 9, 0, 0, 3, 3, 1)
        self.refused(-5, 9, 0, 0, 3, 3)
        self.refused(-5, 9, 0, 0, 2, 2)
        self.refused(-7, 9, 0, 0, 3)
        self.refused(-8, 9, 0, 0, 2)


class Peek(GameCase):
    def test_how_many(self):
        self.game.begin(3, 0, 0, 3)
        self.assertEqual(self.ok(10, 0, 0, 0), [0, 0])
        self.assertEqual(self.ok(10, 0, 0, 2), [0, 2])
        self.assertEqual(self.ok(10, 1, 0, 3), [0, 3])
        self.assertEqual(self.ok(10, 1, 0, 4), [0, 3])
        self.assertEqual(self.ok(10, 1, 0, 250), [0, 3])
        self.assertEqual(self.ok(10, 0, 1, 250), [0, 0])
        self.assert_zone(0, [1, 2, 3])

    def test_ranges(self):
        self.game.begin(1, 1)
        self.refuse_beyond(10, (0, 0, 1), (SIDE, SIDE, COUNT))
