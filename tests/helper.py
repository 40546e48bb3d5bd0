"""Playing a line call by call, with a look at what is told after it; and drawing lines."""

import copy
import unittest

from seenbacks.state import SIDES, State
from seenbacks.table import answer, answers

WITH_ROW = {0: 4, 9: 2}
MOST = 1000000000
LEAST_NUMBER = -9223372036854775808
GREATEST_NUMBER = 9223372036854775807
ZONES = range(9)
SECRET_CODES = (2, 3, 9, 19)
ASKING_CODES = (20, 21, 22, 23, 24)


def flat(code, numbers):
    """A call as it stands in the list that is handed in; a row's numbers stand last in numbers."""
    if code not in WITH_ROW:
        return [code] + list(numbers)
    fixed = WITH_ROW[code]
    row = list(numbers[fixed:])
    return [code] + list(numbers[:fixed]) + [len(row)] + row


def line_of(calls):
    return [number for call in calls for number in flat(call[0], call[1:])]


def split_answers(told):
    """The answers one by one, without their counts."""
    parts = []
    at = 0
    while at < len(told):
        parts.append(told[at + 1:at + 1 + told[at]])
        at += 1 + told[at]
    return parts


def play(*calls):
    """What is answered to these calls as one line, answer by answer."""
    return split_answers(answers(line_of(calls)))


def pairs(numbers):
    return list(zip(numbers[0::2], numbers[1::2], strict=True))


class Game:
    def __init__(self):
        self.state = State()
        self.calls = []
        self.line = []
        self.told = []

    def call(self, code, *numbers):
        told = answer(self.state, code, list(numbers))
        self.calls.append((code,) + numbers)
        self.line.extend(flat(code, numbers))
        self.told.append(len(told))
        self.told.extend(told)
        return told

    def begin(self, n0, n1, seed=0, cap=20000):
        """Card c has the face 100 + c."""
        faces = [101 + at for at in range(n0 + n1)]
        return self.call(0, n0, n1, seed, cap, *faces)

    def ask(self, code, *numbers):
        """What is told behind the 0; asked beside the line, which so keeps to its 130 calls."""
        told = answer(self.state, code, list(numbers))
        if told[0] != 0:
            raise ValueError((code, numbers, told))
        return told[1:]

    def view(self, side, zone):
        return pairs(self.ask(20, side, zone))

    def known(self, side):
        return self.ask(22, side)

    def truth(self, zone):
        return pairs(self.ask(24, zone))

    def zone(self, zone):
        return [number for number, face in self.truth(zone)]

    def faces(self, zone):
        return [face for number, face in self.truth(zone)]

    def live(self):
        return sorted(number for zone in ZONES for number in self.zone(zone))

    def seen(self, side):
        return [number for number in self.live() if self.ask(21, side, number)[0] == 1]

    def card(self, number):
        return self.state.pieces[number].card

    def seen_cards(self, side):
        """Tokens have no card's number: each of them stands for itself."""
        return {self.card(number) or ("token", number) for number in self.seen(side)}

    def asked(self):
        """All that can be asked for, but knows, which asks for no more."""
        by_side = [(self.ask(22, side), self.ask(23, side), [self.ask(20, side, zone) for zone in ZONES])
                   for side in SIDES]
        return by_side, [self.ask(24, zone) for zone in ZONES]

    def snapshot(self):
        kept = copy.deepcopy(vars(self.state))
        kept["pieces"] = {number: vars(piece) for number, piece in kept["pieces"].items()}
        return kept


class GameCase(unittest.TestCase):
    """Whatever a test plays call by call, the whole line must be answered the same."""

    def setUp(self):
        self.game = Game()

    def tearDown(self):
        handed_in = list(self.game.line)
        self.assertEqual(answers(handed_in), self.game.told)
        self.assertEqual(handed_in, self.game.line)

    def ok(self, code, *numbers):
        told = self.game.call(code, *numbers)
        self.assertEqual(told[0], 0, (code, numbers, told))
        return told

    def refused(self, refusal, code, *numbers):
        before = self.game.snapshot()
        asked = self.game.asked()
        self.assertEqual(self.game.call(code, *numbers), [refusal], (code, numbers))
        self.assertEqual(self.game.snapshot(), before, (code, numbers))
        self.assertEqual(self.game.asked(), asked, (code, numbers))

    def assert_zone(self, zone, numbers):
        self.assertEqual(self.game.zone(zone), numbers)

    def assert_known(self, by_first, by_second):
        self.assertEqual([self.game.known(side) for side in SIDES], [by_first, by_second])

    def assert_seen(self, by_first, by_second):
        self.assertEqual([self.game.seen(side) for side in SIDES], [by_first, by_second])

    def assert_rest(self, of_first, of_second):
        self.assertEqual([self.game.ask(23, side) for side in SIDES], [of_first, of_second])

    def refuse_beyond(self, code, numbers, ranges):
        """Each number in turn is set just beyond its range, and as far beyond as a call can say."""
        for at, bounds in enumerate(ranges):
            for wrong in (bounds[0] - 1, bounds[1] + 1, LEAST_NUMBER, GREATEST_NUMBER):
                if bounds[0] <= wrong <= bounds[1] or wrong > GREATEST_NUMBER:
                    continue
                changed = list(numbers)
                changed[at] = wrong
                self.refused(-1, code, *changed)


class Dice:
    """The same throws in every run and under every Python."""

    def __init__(self, start):
        self.value = start

    def below(self, bound):
        self.value = (self.value * 48271 + 11) % 2147483647
        return self.value // 7 % bound

    def one_of(self, choices):
        return choices[self.below(len(choices))]


# What fills decks and hands again is drawn oftener: else the calls upon them soon find them empty.
DRAWN_CODES = (1, 1, 1, 1, 1, 2, 2, 3, 3, 4, 5, 5, 6, 7, 8, 9, 9, 10, 10, 11, 12, 12,
               13, 14, 14, 15, 16, 17, 18, 19, 19, 19, 20, 21, 22, 23, 24)
DRAWN_KINDS = (0, 0, 0, 0, 1, 1, 2, 3, 4, 5)
FACES_DRAWN = 5


def any_object(dice, game):
    live = game.live()
    if live and dice.below(10):
        return dice.one_of(live)
    return dice.below(game.state.last + 2)


def one_or_any(dice, game, choices):
    return dice.one_of(choices) if choices and dice.below(10) else any_object(dice, game)


def drawn_order(dice, game):
    side = dice.below(2)
    named = game.zone(side)[:dice.below(5)]
    named = sorted(named, key=lambda number: dice.below(1000))
    if not dice.below(8):
        named.append(any_object(dice, game))
    if named and not dice.below(12):
        named.append(dice.one_of(named))
    return (9, dice.below(2), side) + tuple(named)


def drawn_fetch(dice, game):
    side = dice.below(2)
    in_decks = game.zone(0) + game.zone(1)
    seen = [number for number in game.known(side) if number in in_decks]
    return (19, side, one_or_any(dice, game, seen if dice.below(6) else in_decks))


def drawn_call(dice, game):
    side = dice.below(2)
    place = dice.one_of((0, 1, 2, 3, MOST))
    hand = game.zone(2 + side)
    face_down = [number for zone in (6, 8) for number in game.zone(zone) if game.state.pieces[number].face_down]
    return {
        1: lambda: (1, any_object(dice, game), dice.one_of(DRAWN_KINDS), place),
        2: lambda: (2, side, one_or_any(dice, game, hand), place),
        3: lambda: (3, side, one_or_any(dice, game, hand), dice.one_of((3, 3, 5, 4))),
        4: lambda: (4, one_or_any(dice, game, face_down)),
        5: lambda: (5, side, dice.below(4)),
        6: lambda: (6, side, dice.below(3)),
        7: lambda: (7, side),
        8: lambda: (8, side, dice.below(7)),
        9: lambda: drawn_order(dice, game),
        10: lambda: (10, dice.below(2), side, dice.below(4)),
        11: lambda: (11, any_object(dice, game)),
        12: lambda: (12, side, any_object(dice, game)),
        13: lambda: (13, dice.below(3), side),
        14: lambda: (14, side, dice.below(FACES_DRAWN), dice.below(4)),
        15: lambda: (15, side),
        16: lambda: (16, side),
        17: lambda: (17, side, dice.below(FACES_DRAWN)),
        18: lambda: (18, side, 1 + dice.below(FACES_DRAWN), 1 + dice.below(3)),
        19: lambda: drawn_fetch(dice, game),
        20: lambda: (20, side, dice.below(9)),
        21: lambda: (21, side, any_object(dice, game)),
        22: lambda: (22, side),
        23: lambda: (23, side),
        24: lambda: (24, dice.below(9)),
    }[dice.one_of(DRAWN_CODES)]()


def drawn_begin(dice, n0, n1):
    faces = [dice.below(FACES_DRAWN) for card in range(n0 + n1)]
    cap = min(n0 + n1 + dice.one_of((50, 110, 20000)), 20000)
    return (0, n0, n1, dice.below(MOST), cap, *faces)
