"""The calls put, away, down, up, show and look: where things lie afterwards, and the refusals."""

from tests.helper import MOST, GameCase

OBJECT = (0, MOST)
SIDE = (0, 1)
PLACE = (0, MOST)


class Put(GameCase):
    def test_zone_of_each_kind_for_both_owners(self):
        self.game.begin(6, 6)
        for kind, zones in enumerate(((0, 1), (2, 3), (4, 5), (6, 6), (7, 7), (8, 8))):
            for owner in (0, 1):
                number = self.game.zone(owner)[0]
                self.assertEqual(self.ok(1, number, kind, 100), [0])
                self.assertEqual(self.game.zone(zones[owner]).count(self.game.state.last), 1)
                moved = self.game.state.pieces[self.game.state.last]
                self.assertEqual(moved.owner, owner)
                self.assertEqual(moved.face, self.game.state.pieces[number].face)
                self.refused(-3, 11, number)

    def test_ends_of_the_lists(self):
        for kind, zone, at_end in ((1, 2, True), (2, 4, False), (3, 6, True), (4, 7, False), (5, 8, True)):
            self.game.begin(3, 0)
            for number in (1, 2, 3):
                self.ok(1, number, kind, 1)
            self.assert_zone(zone, [4, 5, 6] if at_end else [6, 5, 4])
            self.assert_zone(0, [])

    def test_places_in_a_deck(self):
        for place, faces in ((0, [104, 101, 102, 103]), (1, [101, 104, 102, 103]), (3, [101, 102, 103, 104]),
                             (4, [101, 102, 103, 104]), (MOST, [101, 102, 103, 104])):
            self.game.begin(4, 0)
            self.ok(1, 4, 3, 0)
            self.ok(1, 5, 0, place)
            self.assertEqual(self.game.faces(0), faces)
            self.assertEqual(self.game.state.last, 6)

    def test_place_is_counted_without_the_old_object(self):
        self.game.begin(4, 0)
        self.ok(1, 1, 0, 1)
        self.assert_zone(0, [2, 5, 3, 4])
        self.ok(1, 2, 0, 0)
        self.assert_zone(0, [6, 5, 3, 4])
        self.ok(1, 3, 0, 3)
        self.assert_zone(0, [6, 5, 4, 7])

    def test_into_the_zone_where_it_lies(self):
        for kind, zone in ((1, 2), (2, 4), (3, 6), (4, 7), (5, 8)):
            self.game.begin(2, 0)
            self.ok(1, 1, kind, 0)
            self.ok(1, 3, kind, 0)
            self.assert_zone(zone, [4])
            self.refused(-3, 1, 3, kind, 0)

    def test_face_down_does_not_stay(self):
        self.game.begin(1, 0)
        self.ok(5, 0, 1)
        self.ok(3, 0, 2, 3)
        self.ok(1, 3, 3, 0)
        self.assertFalse(self.game.state.pieces[4].face_down)
        self.refused(-4, 4, 4)

    def test_ranges(self):
        self.game.begin(2, 0)
        self.refuse_beyond(1, (1, 0, 0), (OBJECT, (0, 5), PLACE))
        self.refuse_beyond(1, (1, 3, 0), (OBJECT, (0, 5), PLACE))
        self.ok(1, 1, 5, MOST)

    def test_objects_never_given_and_gone(self):
        self.game.begin(1, 1)
        self.refused(-2, 1, 0, 3, 0)
        self.refused(-2, 1, 3, 3, 0)
        self.refused(-2, 1, MOST, 3, 0)
        self.ok(1, 2, 3, 0)
        self.refused(-3, 1, 2, 3, 0)
        self.ok(1, 3, 3, 0)

    def test_cap(self):
        self.game.begin(2, 0, 0, 3)
        self.ok(1, 1, 3, 0)
        for kind in range(6):
            self.refused(-8, 1, 2, kind, 0)

    def test_nearest_to_zero(self):
        self.game.begin(2, 0, 0, 3)
        self.ok(1, 1, 3, 0)
        self.refused(-1, 1, 0, 6, 0)
        self.refused(-1, 1, 1, 0, -1)
        self.refused(-2, 1, 4, 0, 0)
        self.refused(-3, 1, 1, 0, 0)


class PutToken(GameCase):
    def test_ceases_off_the_field(self):
        self.game.begin(0, 0, 0, 9)
        for kind in (0, 1, 2, 4, 5):
            number = self.ok(18, 1, 7, 1)[1]
            self.ok(1, number, kind, 0)
            self.assertEqual(self.game.live(), [])
            self.assertEqual(self.game.state.last, number)
            self.refused(-3, 1, number, 3, 0)
        self.assert_known([], [])

    def test_goes_on_upon_the_field(self):
        self.game.begin(0, 0, 0, 3)
        self.ok(18, 1, 7, 1)
        self.ok(18, 0, 8, 1)
        self.ok(1, 1, 3, 0)
        self.assert_zone(6, [2, 3])
        self.assertEqual(self.game.faces(6), [8, 7])
        self.assertEqual(self.game.state.pieces[3].owner, 1)

    def test_cap_is_asked_only_where_it_goes_on(self):
        self.game.begin(0, 0, 0, 1)
        self.ok(18, 0, 7, 1)
        self.refused(-8, 1, 1, 3, 0)
        self.ok(1, 1, 0, 0)
        self.assertEqual(self.game.live(), [])


class Away(GameCase):
    def test_into_the_deck(self):
        for place, faces in ((0, [101, 103, 104]), (1, [103, 101, 104]), (2, [103, 104, 101]), (MOST, [103, 104, 101])):
            self.game.begin(4, 0)
            self.ok(5, 0, 2)
            self.assertEqual(self.ok(2, 0, 5, place), [0])
            self.assertEqual(self.game.faces(0), faces)
            self.assert_zone(2, [6])
            self.assertEqual(self.game.state.last, 7)

    def test_the_second_side(self):
        self.game.begin(1, 2)
        self.ok(5, 1, 1)
        self.ok(2, 1, 4, 0)
        self.assert_zone(1, [5, 3])
        self.assert_zone(0, [1])

    def test_ranges(self):
        self.game.begin(1, 1)
        self.ok(5, 0, 1)
        self.refuse_beyond(2, (0, 3, 0), (SIDE, OBJECT, PLACE))

    def test_never_given_gone_and_elsewhere(self):
        self.game.begin(2, 2)
        self.ok(5, 0, 1)
        self.ok(5, 1, 1)
        self.refused(-2, 2, 0, 0, 0)
        self.refused(-2, 2, 0, 7, 0)
        self.refused(-2, 2, 0, MOST, MOST)
        self.refused(-3, 2, 0, 1, 0)
        self.refused(-4, 2, 0, 2, 0)
        self.refused(-4, 2, 0, 6, 0)
        self.refused(-4, 2, 1, 5, 0)
        self.ok(1, 2, 3, 0)
        self.refused(-4, 2, 0, 7, 0)

    def test_cap_and_nearest_to_zero(self):
        self.game.begin(2, 0, 0, 3)
        self.ok(5, 0, 1)
        self.refused(-8, 2, 0, 3, 0)
        self.refused(-4, 2, 0, 2, 0)
        self.refused(-3, 2, 0, 1, 0)
        self.refused(-2, 2, 0, 4, 0)
        self.refused(-1, 2, 0, 4, -1)
        self.game.begin(2, 0, 0, 4)
        self.ok(5, 0, 1)
        self.ok(2, 0, 3, 0)


class Down(GameCase):
    def test_onto_field_and_rift(self):
        for kind, zone in ((3, 6), (5, 8)):
            self.game.begin(0, 3)
            self.ok(6, 1, 1)
            self.ok(1, 4, kind, 0)
            self.ok(5, 1, 1)
            self.assertEqual(self.ok(3, 1, 6, kind), [0])
            self.assert_zone(zone, [5, 7])
            self.assertEqual([self.game.state.pieces[n].face_down for n in (5, 7)], [False, True])
            self.assertFalse(self.game.state.lies_open(7))

    def test_ranges(self):
        self.game.begin(1, 1)
        self.ok(5, 0, 1)
        self.refuse_beyond(3, (0, 3, 3), (SIDE, OBJECT, (3, 5)))
        for kind in (0, 1, 2, 4, 6):
            self.refused(-1, 3, 0, 3, kind)

    def test_never_given_gone_and_elsewhere(self):
        self.game.begin(2, 2)
        self.ok(5, 0, 1)
        self.ok(5, 1, 1)
        self.refused(-2, 3, 0, 0, 3)
        self.refused(-2, 3, 0, 7, 3)
        self.refused(-2, 3, 0, MOST, 5)
        self.refused(-3, 3, 0, 1, 5)
        self.refused(-4, 3, 0, 2, 3)
        self.refused(-4, 3, 0, 6, 3)
        self.refused(-4, 3, 1, 5, 5)

    def test_cap_and_nearest_to_zero(self):
        self.game.begin(2, 0, 0, 3)
        self.ok(5, 0, 1)
        self.refused(-8, 3, 0, 3, 3)
        self.refused(-4, 3, 0, 2, 3)
        self.refused(-3, 3, 0, 1, 3)
        self.refused(-2, 3, 0, 4, 3)
        self.refused(-1, 3, 0, 4, 4)
        self.refused(-1, 3, 0, 1, 4)
        self.refused(-1, 3, 0, 2, 4)
        self.game.begin(2, 0, 0, 4)
        self.ok(5, 0, 1)
        self.ok(3, 0, 3, 3)


class Up(GameCase):
    def test_turns_up_and_stays_the_same_object(self):
        for kind, zone in ((3, 6), (5, 8)):
            self.game.begin(1, 0, 0, 3)
            self.ok(5, 0, 1)
            self.ok(3, 0, 2, kind)
            self.assertEqual(self.ok(4, 3), [0])
            self.assert_zone(zone, [3])
            self.assertTrue(self.game.state.lies_open(3))
            self.assertEqual(self.game.state.last, 3)
            self.refused(-4, 4, 3)

    def test_elsewhere(self):
        self.game.begin(6, 0)
        for kind in range(6):
            self.ok(1, self.game.zone(0)[0], kind, 9)
            self.refused(-4, 4, self.game.state.last)

    def test_ranges_never_given_and_gone(self):
        self.game.begin(1, 0)
        self.ok(5, 0, 1)
        self.ok(3, 0, 2, 3)
        self.refuse_beyond(4, (3,), (OBJECT,))
        self.refused(-2, 4, 0)
        self.refused(-2, 4, 4)
        self.refused(-2, 4, MOST)
        self.refused(-3, 4, 2)
        self.ok(1, 3, 3, 0)
        self.refused(-3, 4, 3)


class ShowAndLook(GameCase):
    def test_answers_and_moves_nothing(self):
        self.game.begin(2, 2, 0, 4)
        zones = self.game.snapshot()["zones"]
        self.assertEqual(self.ok(11, 1), [0])
        self.assertEqual(self.ok(12, 0, 3), [0])
        self.assertEqual(self.ok(12, 1, 3), [0])
        self.assertEqual(self.game.snapshot()["zones"], zones)
        self.assertEqual(self.game.state.last, 4)

    def test_ranges(self):
        self.game.begin(1, 1)
        self.refuse_beyond(11, (1,), (OBJECT,))
        self.refuse_beyond(12, (0, 1), (SIDE, OBJECT))

    def test_never_given_and_gone(self):
        self.game.begin(1, 1)
        self.ok(6, 0, 1)
        for number, refusal in ((0, -2), (4, -2), (MOST, -2), (1, -3)):
            self.refused(refusal, 11, number)
            self.refused(refusal, 12, 1, number)
        self.refused(-1, 12, 2, 4)
        self.refused(-1, 12, -1, 1)
