"""Playing a line call by call, with a look at what lies where and at what each side knows."""

import copy
import unittest

from seenbacks.state import NO_CARD, SIDES, TO_FIELD, State
from seenbacks.table import answer, answers

WITH_ROW = {0: 4, 9: 2}
MOST = 1000000000
LEAST_NUMBER = -9223372036854775808
GREATEST_NUMBER = 9223372036854775807


def flat(code, numbers):
    """A call as it stands in the list that is handed in; a row's numbers stand last in numbers."""
    if code not in WITH_ROW:
        return [code] + list(numbers)
    fixed = WITH_ROW[code]
    row = list(numbers[fixed:])
    return [code] + list(numbers[:fixed]) + [len(row)] + row


class Game:
    def __init__(self):
        self.state = State()
        self.line = []
        self.told = []
        self.poked = False

    def call(self, code, *numbers):
        told = answer(self.state, code, list(numbers))
        self.line.extend(flat(code, numbers))
        self.told.append(len(told))
        self.told.extend(told)
        return told

    def begin(self, n0, n1, seed=0, cap=20000):
        """Card c has the face 100 + c."""
        faces = [101 + at for at in range(n0 + n1)]
        return self.call(0, n0, n1, seed, cap, *faces)

    def add_token(self, owner, sort):
        """No call of the first thirteen makes a token, so it's laid there by hand."""
        self.poked = True
        return self.state.give(NO_CARD, sort, owner, TO_FIELD, 0)

    def zone(self, zone):
        return list(self.state.zones[zone])

    def faces(self, zone):
        return [self.state.pieces[number].face for number in self.zone(zone)]

    def known(self, side):
        return sorted(self.state.known[side])

    def live(self):
        return sorted(number for zone in self.state.zones for number in zone)

    def seen(self, side):
        return [number for number in self.live() if self.state.sees(side, number)]

    def seen_cards(self, side):
        return {self.state.pieces[number].card for number in self.seen(side)}

    def snapshot(self):
        kept = copy.deepcopy(vars(self.state))
        kept["pieces"] = {number: vars(piece) for number, piece in kept["pieces"].items()}
        return kept


class GameCase(unittest.TestCase):
    """Whatever a test plays call by call, the whole line must be answered the same."""

    def setUp(self):
        self.game = Game()

    def tearDown(self):
        if not self.game.poked:
            handed_in = list(self.game.line)
            self.assertEqual(answers(handed_in), self.game.told)
            self.assertEqual(handed_in, self.game.line)

    def ok(self, code, *numbers):
        told = self.game.call(code, *numbers)
        self.assertEqual(told[0], 0, (code, numbers, told))
        return told

    def refused(self, refusal, code, *numbers):
        before = self.game.snapshot()
        self.assertEqual(self.game.call(code, *numbers), [refusal], (code, numbers))
        self.assertEqual(self.game.snapshot(), before, (code, numbers))

    def assert_zone(self, zone, numbers):
        self.assertEqual(self.game.zone(zone), numbers)

    def assert_known(self, by_first, by_second):
        self.assertEqual([self.game.known(side) for side in SIDES], [by_first, by_second])

    def refuse_beyond(self, code, numbers, ranges):
        """Each number in turn is set just beyond its range, and as far beyond as a call can say."""
        for at, bounds in enumerate(ranges):
            for wrong in (bounds[0] - 1, bounds[1] + 1, LEAST_NUMBER, GREATEST_NUMBER):
                if bounds[0] <= wrong <= bounds[1] or wrong > GREATEST_NUMBER:
                    continue
                changed = list(numbers)
                changed[at] = wrong
                self.refused(-1, code, *changed)
