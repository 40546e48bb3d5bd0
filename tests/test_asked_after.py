"""What can be asked for after each kind of call: one table, one call upon it, and all that is told then."""

import unittest

from tests.helper import ZONES, play

START = (
    (0, 5, 4, 0, 99, 11, 12, 13, 14, 15, 21, 22, 23, 24),
    (5, 0, 3),          # 10 11 12
    (5, 1, 2),          # 13 14
    (3, 0, 10, 3),      # 15
    (12, 1, 11),
    (12, 0, 13),
    (11, 4),
    (10, 1, 1, 1),
    (18, 1, 7, 1),      # 16
)
TRUTH = {
    0: [4, 14, 5, 15],
    1: [8, 23, 9, 24],
    2: [11, 12, 12, 13],
    3: [13, 21, 14, 22],
    6: [15, 11, 16, 7],
}
KNOWN = ([4, 13, 15], [4, 8, 11])
REST = ([15], [24])
FACE_DOWN = (15,)


def sees(side, zone, number, known, face_down):
    return number in known[side] or zone == 2 + side or (zone >= 4 and number not in face_down)


def expected_views(truth, known, face_down):
    views = []
    for side in (0, 1):
        for zone in ZONES:
            told = [0]
            listed = truth.get(zone, [])
            for number, face in zip(listed[0::2], listed[1::2]):
                if sees(side, zone, number, known, face_down):
                    told += [number, face]
                else:
                    told += [number if zone >= 4 else 0, -1]
            views.append(told)
    return views


def expected_knows(truth, known, face_down):
    told = []
    for side in (0, 1):
        for zone in ZONES:
            listed = truth.get(zone, [])
            for number, face in zip(listed[0::2], listed[1::2]):
                told.append([0, 1, face] if sees(side, zone, number, known, face_down) else [0, 0])
    return told


class AskedAfter(unittest.TestCase):
    def check(self, calls, told, changed=None, known=KNOWN, rest=REST, face_down=FACE_DOWN, before=TRUTH):
        """changed names the zones that the calls changed; known, rest and face_down are all that holds after them."""
        truth = dict(before)
        truth.update(changed or {})
        played = START + tuple(calls)
        asks = [(24, zone) for zone in ZONES] + [(22, 0), (22, 1), (23, 0), (23, 1)]
        asks += [(20, side, zone) for side in (0, 1) for zone in ZONES]
        asks += [(21, side, number) for side in (0, 1) for zone in ZONES for number in truth.get(zone, [])[0::2]]
        answered = play(*played, *asks)
        self.assertEqual(answered[len(START):len(played)], told)
        expected = [[0] + truth.get(zone, []) for zone in ZONES]
        expected += [[0] + row for row in known] + [[0] + row for row in rest]
        expected += expected_views(truth, known, face_down) + expected_knows(truth, known, face_down)
        self.assertEqual(answered[len(played):], expected)

    def test_the_table_itself(self):
        self.check([], [])

    def test_begin(self):
        self.check([(0, 1, 1, 0, 9, 31, 32)], [[0]], {0: [1, 31], 1: [2, 32]}, ([], []), ([31], [32]), (), {})

    def test_put_out_of_a_hand_into_the_deck(self):
        self.check([(1, 11, 0, 1)], [[0]], {0: [4, 14, 17, 12, 5, 15], 2: [12, 13]},
                   ([4, 13, 15, 17], [4, 8, 17]))

    def test_put_of_what_one_side_sees(self):
        self.check([(1, 12, 0, 9)], [[0]], {0: [4, 14, 5, 15, 17, 13], 2: [11, 12]},
                   ([4, 13, 15, 17], [4, 8, 11]))

    def test_put_of_what_lies_face_down(self):
        self.check([(1, 15, 1, 0)], [[0]], {2: [11, 12, 12, 13, 17, 11], 6: [16, 7]}, ([4, 13], [4, 8, 11]))

    def test_put_onto_the_stack(self):
        self.check([(1, 9, 4, 0)], [[0]], {1: [8, 23], 7: [17, 24]}, rest=([15], []))

    def test_put_of_a_token(self):
        self.check([(1, 16, 0, 0)], [[0]], {6: [15, 11]})
        self.check([(1, 16, 3, 0)], [[0]], {6: [15, 11, 17, 7]})

    def test_away(self):
        self.check([(2, 0, 12, 0)], [[0]], {0: [17, 13, 4, 14, 5, 15], 2: [11, 12]}, ([4, 13, 15, 17], [4, 8]))
        self.check([(2, 1, 14, 1)], [[0]], {1: [8, 23, 17, 22, 9, 24], 3: [13, 21]}, ([4, 15], [4, 8, 11, 17]))

    def test_down(self):
        self.check([(3, 0, 11, 5)], [[0]], {2: [12, 13], 8: [17, 12]}, ([4, 13, 15, 17], [4, 8]),
                   face_down=(15, 17))
        self.check([(3, 1, 13, 3)], [[0]], {3: [14, 22], 6: [15, 11, 16, 7, 17, 21]}, ([4, 15], [4, 8, 11, 17]),
                   face_down=(15, 17))

    def test_up(self):
        self.check([(4, 15)], [[0]], {}, ([4, 13], [4, 8, 11]), face_down=())

    def test_draw(self):
        self.check([(5, 0, 3)], [[0, 1]], {0: [], 2: [11, 12, 12, 13, 17, 14, 18, 15]}, ([13, 15], [8, 11, 17]),
                   ([], [24]))

    def test_mill(self):
        self.check([(6, 1, 1)], [[0, 1]], {1: [9, 24], 5: [17, 23]}, ([4, 13, 15], [4, 11]))

    def test_shuffle(self):
        # Chance from 0 draws 1 below 2 at first: either deck stays in its order, and is forgotten.
        self.check([(7, 0)], [[0]], {0: [17, 14, 18, 15]}, ([13, 15], [8, 11]), ([14, 15], [24]))
        self.check([(7, 1)], [[0]], {1: [17, 23, 18, 24]}, ([4, 13, 15], [4, 11]), ([15], [23, 24]))

    def test_cut(self):
        self.check([(8, 0, 1)], [[0]], {0: [5, 15, 4, 14]})

    def test_order(self):
        self.check([(9, 0, 1, 9, 8)], [[0]], {1: [17, 24, 18, 23]}, ([4, 13, 15], [4, 11]), ([15], [23, 24]))
        self.check([(9, 1, 0, 5, 4)], [[0]], {0: [17, 15, 18, 14]}, ([13, 15], [8, 11, 18]), ([14, 15], [24]))
        self.check([(9, 1, 1, 8)], [[0]], {1: [17, 23, 9, 24]}, ([4, 13, 15], [4, 11, 17]))

    def test_peek(self):
        self.check([(10, 0, 1, 2)], [[0, 2]], {}, ([4, 8, 9, 13, 15], [4, 8, 11]))
        self.check([(10, 1, 1, 250)], [[0, 2]], {}, ([4, 13, 15], [4, 8, 9, 11]), ([15], []))

    def test_show(self):
        self.check([(11, 9)], [[0]], {}, ([4, 9, 13, 15], [4, 8, 9, 11]), ([15], []))
        self.check([(11, 12)], [[0]], {}, ([4, 13, 15], [4, 8, 11, 12]))

    def test_look(self):
        self.check([(12, 1, 15)], [[0]], {}, ([4, 13, 15], [4, 8, 11, 15]))
        self.check([(12, 0, 5)], [[0]], {}, ([4, 5, 13, 15], [4, 8, 11]), ([], [24]))

    def test_reveal(self):
        self.check([(13, 1, 0)], [[0, 2]], {}, ([4, 13, 15], [4, 8, 11, 12]))
        self.check([(13, 2, 1)], [[0, 2]], {}, ([4, 13, 14, 15], [4, 8, 11]))
        self.check([(13, 0, 0)], [[0, 2]])

    def test_until(self):
        self.check([(14, 0, 15, 2)], [[0, 1, 1]], {0: [], 2: [11, 12, 12, 13, 18, 15], 4: [17, 14]},
                   ([13, 15], [8, 11, 18]), ([], [24]))
        self.check([(14, 1, 24, 1)], [[0, 0, 1]], {1: [9, 24], 5: [17, 23]}, ([4, 13, 15], [4, 11]))

    def test_flip(self):
        self.check([(15, 0)], [[0, 1]], {0: [5, 15], 2: [11, 12, 12, 13, 17, 14]}, ([13, 15], [8, 11, 17]))
        self.check([(15, 1)], [[0, 2]], {1: [9, 24], 5: [17, 23]}, ([4, 13, 15], [4, 11]))

    def test_lose(self):
        self.check([(16, 0)], [[0, 1]], {2: [11, 12], 4: [17, 13]})
        self.check([(16, 1)], [[0, 1]], {3: [13, 21], 5: [17, 22]})

    def test_match(self):
        self.check([(17, 0, 12)], [[0, 1]], {2: [12, 13], 4: [17, 12]}, ([4, 13, 15], [4, 8, 12]))
        self.check([(17, 1, 20)], [[0, 0]], {}, ([4, 13, 14, 15], [4, 8, 11]))

    def test_token(self):
        self.check([(18, 0, 9, 2)], [[0, 17, 18]], {6: [15, 11, 16, 7, 17, 9, 18, 9]})

    def test_fetch(self):
        self.check([(11, 5), (19, 0, 4)], [[0], [0]], {0: [5, 15], 2: [11, 12, 12, 13, 17, 14]},
                   ([5, 13, 15], [8, 11]), ([], [24]))
        self.check([(11, 5), (19, 1, 4)], [[0], [0]], {0: [5, 15], 2: [11, 12, 12, 13, 17, 14]},
                   ([13, 15], [5, 8, 11, 17]))
