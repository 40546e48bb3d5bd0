"""Promises 2, 3 and 5, and what the document says always holds, over many made-up lines."""

import unittest

from tests.helper import MOST, Game

CARDS = 12
KINDS_THAT_HIDE_A_MOVE = (2, 3, 9)


class Dice:
    """The same throws in every run and under every Python."""

    def __init__(self, start):
        self.value = start

    def below(self, bound):
        self.value = (self.value * 48271 + 11) % 2147483647
        return self.value // 7 % bound

    def one_of(self, choices):
        return choices[self.below(len(choices))]


def any_object(dice, game):
    live = game.live()
    if live and dice.below(10):
        return dice.one_of(live)
    return dice.below(game.state.last + 2)


def made_order(dice, game):
    side = dice.below(2)
    named = game.zone(side)[:dice.below(5)]
    named = sorted(named, key=lambda number: dice.below(1000))
    if not dice.below(8):
        named.append(any_object(dice, game))
    return (9, dice.below(2), side) + tuple(named)


def hand_object(dice, game, side):
    hand = game.zone(2 + side)
    return dice.one_of(hand) if hand and dice.below(10) else any_object(dice, game)


def made_call(dice, game):
    code = dice.one_of((1, 1, 1, 2, 2, 3, 3, 4, 5, 5, 6, 7, 8, 9, 9, 10, 10, 11, 12, 12))
    side = dice.below(2)
    place = dice.one_of((0, 1, 2, 3, MOST))
    down = [number for number in game.live() if game.state.pieces[number].face_down]
    if code == 9:
        return made_order(dice, game)
    return {
        1: lambda: (1, any_object(dice, game), dice.below(6), place),
        2: lambda: (2, side, hand_object(dice, game, side), place),
        3: lambda: (3, side, hand_object(dice, game, side), dice.one_of((3, 3, 5, 4))),
        4: lambda: (4, dice.one_of(down) if down else any_object(dice, game)),
        5: lambda: (5, side, dice.below(4)),
        6: lambda: (6, side, dice.below(3)),
        7: lambda: (7, side),
        8: lambda: (8, side, dice.below(7)),
        10: lambda: (10, dice.below(2), side, dice.below(4)),
        11: lambda: (11, any_object(dice, game)),
        12: lambda: (12, side, any_object(dice, game)),
    }[code]()


class Promises(unittest.TestCase):
    def check_state(self, game, note):
        state = game.state
        live = game.live()
        self.assertEqual(len(live), len(set(live)), note)
        self.assertEqual(sorted(state.pieces), list(range(1, state.last + 1)), note)
        self.assertLessEqual(state.last, state.cap, note)
        self.assertEqual(sorted(state.pieces[number].card for number in live), list(range(1, CARDS + 1)), note)
        for number, piece in state.pieces.items():
            lies = [zone for zone in range(9) if number in state.zones[zone]]
            self.assertEqual(lies, [piece.zone] if number in live else [], note)
            if piece.face_down:
                self.assertIn(piece.zone, (6, 8), note)
            if piece.zone in range(6):
                self.assertEqual(piece.zone % 2, piece.owner, note)
        for side in (0, 1):
            for number in state.known[side]:
                piece = state.pieces[number]
                hidden = piece.zone in range(4) or piece.face_down
                self.assertTrue(number in live and hidden and piece.zone != 2 + side, note)

    def check_seen(self, call, before, after, note):
        for side in (0, 1):
            against = call[0] in KINDS_THAT_HIDE_A_MOVE and call[1] != side
            if call[0] == 7 or against:
                self.assertLessEqual(after[side], before[side], note)
            else:
                self.assertLessEqual(before[side], after[side], note)

    def play(self, start):
        dice = Dice(start)
        game = Game()
        game.begin(7, CARDS - 7, start, dice.one_of((60, 300, 20000)))
        moved = 0
        for turn in range(60):
            call = made_call(dice, game)
            seen = [game.seen_cards(side) for side in (0, 1)]
            before = game.snapshot()
            told = game.call(*call)
            note = (start, turn, call, told)
            if told[0] < 0:
                self.assertEqual(game.snapshot(), before, note)
                continue
            moved += 1
            self.check_state(game, note)
            self.check_seen(call, seen, [game.seen_cards(side) for side in (0, 1)], note)
        return moved

    def test_many_lines(self):
        taken = [self.play(start) for start in range(1, 101)]
        self.assertGreater(sum(taken), 3000)
