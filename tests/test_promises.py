"""The promises 1 to 5, and what the document says always holds, over drawn lines of 130 calls."""

import unittest

from seenbacks.table import answers
from tests.helper import (ASKING_CODES, SECRET_CODES, ZONES, Dice, Game, drawn_begin, drawn_call, line_of, pairs,
                          split_answers)

LINES = 40
CALLS = 130
SIZES = ((7, 5), (14, 9), (9, 0), (6, 17))


class Moment:
    """All that can be asked for at one moment."""

    def __init__(self, game):
        self.kept = game.snapshot()
        self.asked = game.asked()
        by_side, truths = self.asked
        self.known = [told[0] for told in by_side]
        self.rest = [told[1] for told in by_side]
        self.views = [[pairs(view) for view in told[2]] for told in by_side]
        self.truths = [pairs(truth) for truth in truths]
        self.zone_of = {number: zone for zone in ZONES for number, face in self.truths[zone]}
        self.knows = [{number: game.ask(21, side, number) for number in self.zone_of} for side in (0, 1)]

    def piece(self, number):
        return self.kept["pieces"][number]

    def seen_cards(self, side):
        return {self.piece(number)["card"] for number, told in self.knows[side].items() if told[0] == 1} - {0}

    def sees(self, side, number):
        """By the document's words alone, and by what is told by known."""
        zone = self.zone_of[number]
        if zone >= 4 and not self.piece(number)["face_down"]:
            return True
        return zone == 2 + side or number in self.known[side]


class Drawn:
    """One drawn line, with the moment after each of its calls."""

    def __init__(self, start):
        dice = Dice(start)
        self.start = start
        self.game = Game()
        self.answers = []
        self.moments = []
        sizes = dice.one_of(SIZES)
        self.play(drawn_begin(dice, *sizes))
        again = CALLS // 2 if start % 5 == 0 else CALLS
        while len(self.answers) < CALLS:
            at_begin = len(self.answers) == again
            self.play(drawn_begin(dice, *sizes) if at_begin else drawn_call(dice, self.game))

    def play(self, call):
        self.answers.append(self.game.call(*call))
        self.moments.append(Moment(self.game))

    def steps(self):
        """Each call with its answer and the moments before and after it, the first begin left out."""
        for at in range(1, CALLS):
            call = self.game.calls[at]
            note = (self.start, at, call, self.answers[at])
            yield call, self.answers[at], self.moments[at - 1], self.moments[at], note


class Promises(unittest.TestCase):
    @classmethod
    def setUpClass(cls):
        cls.lines = [Drawn(start) for start in range(1, LINES + 1)]

    def all_steps(self):
        for drawn in self.lines:
            yield from drawn.steps()

    def all_moments(self):
        for drawn in self.lines:
            for at, moment in enumerate(drawn.moments):
                yield moment, (drawn.start, at, drawn.game.calls[at])

    def test_lines_are_long_and_of_all_calls(self):
        taken = {code: 0 for code in range(25)}
        refused = {-number: 0 for number in range(1, 9)}
        for call, told, before, after, note in self.all_steps():
            if told[0] == 0:
                taken[call[0]] += 1
            else:
                refused[told[0]] += 1
        for code, count in taken.items():
            self.assertGreaterEqual(count, 8 if code == 0 else 30, code)
        for refusal, count in refused.items():
            self.assertGreaterEqual(count, 5, refusal)

    def test_the_same_as_one_list(self):
        for drawn in self.lines:
            self.assertEqual(len(drawn.answers), CALLS)
            handed_in = list(drawn.game.line)
            self.assertEqual(split_answers(answers(handed_in)), drawn.answers)
            self.assertEqual(handed_in, drawn.game.line)

    def test_what_always_holds(self):
        for moment, note in self.all_moments():
            kept = moment.kept
            live = sorted(number for zone in kept["zones"] for number in zone)
            cards = sorted(moment.piece(number)["card"] for number in live)
            cards = [card for card in cards if card != 0]
            self.assertEqual(len(live), len(set(live)), note)
            self.assertEqual(cards, list(range(1, len(cards) + 1)), note)
            self.assertEqual(sorted(kept["pieces"]), list(range(1, kept["last"] + 1)), note)
            self.assertLessEqual(kept["last"], kept["cap"], note)
            for number in live:
                piece = moment.piece(number)
                zone = moment.zone_of[number]
                self.assertFalse(piece["face_down"] and zone not in (6, 8), note)
                self.assertFalse(piece["card"] == 0 and zone != 6, note)
                self.assertFalse(zone < 6 and zone % 2 != piece["owner"], note)

    def test_the_known_are_hidden_and_not_in_the_own_hand(self):
        for moment, note in self.all_moments():
            for side in (0, 1):
                self.assertEqual(moment.known[side], sorted(set(moment.known[side])), note)
                for number in moment.known[side]:
                    zone = moment.zone_of[number]
                    self.assertTrue(zone < 4 or moment.piece(number)["face_down"], note)
                    self.assertNotEqual(zone, 2 + side, note)

    def test_promise_1(self):
        for moment, note in self.all_moments():
            for side in (0, 1):
                for zone in ZONES:
                    expected = [(number, face) if moment.sees(side, number) else (number if zone >= 4 else 0, -1)
                                for number, face in moment.truths[zone]]
                    self.assertEqual(moment.views[side][zone], expected, note)
                    for number, face in moment.truths[zone]:
                        told = [1, face] if moment.sees(side, number) else [0]
                        self.assertEqual(moment.knows[side][number], told, note)

    def test_rest_is_what_an_owner_does_not_see(self):
        for moment, note in self.all_moments():
            for side in (0, 1):
                faces = [face for zone in ZONES for number, face in moment.truths[zone]
                         if moment.piece(number)["card"] != 0 and moment.piece(number)["owner"] == side
                         and not moment.sees(side, number)]
                self.assertEqual(moment.rest[side], sorted(faces), note)

    def test_promise_2(self):
        for call, told, before, after, note in self.all_steps():
            for side in (0, 1):
                if call[0] in (0, 7) or (call[0] in SECRET_CODES and call[1] != side):
                    continue
                self.assertLessEqual(before.seen_cards(side), after.seen_cards(side), note)

    def test_promise_3(self):
        fetched_for_the_other = 0
        for call, told, before, after, note in self.all_steps():
            if told[0] < 0 or (call[0] != 7 and call[0] not in SECRET_CODES):
                continue
            for side in (0, 1) if call[0] == 7 else (1 - call[1],):
                new = after.seen_cards(side) - before.seen_cards(side)
                if call[0] == 19 and before.piece(call[2])["owner"] == side:
                    # It goes to its owner's hand, and there its owner sees it: the one exception.
                    new.discard(before.piece(call[2])["card"])
                    fetched_for_the_other += 1
                self.assertEqual(new, set(), note)
        self.assertGreater(fetched_for_the_other, 10)

    def test_what_the_secret_calls_hide(self):
        for call, told, before, after, note in self.all_steps():
            if told[0] < 0:
                continue
            if call[0] == 0:
                self.assertEqual(after.known, [[], []], note)
            if call[0] == 7:
                in_deck = [number for number, face in after.truths[call[1]]]
                self.assertEqual(set(in_deck) & set(after.known[0] + after.known[1]), set(), note)
            if call[0] in (2, 3):
                in_hand = [number for number, face in after.truths[2 + call[1]]]
                self.assertEqual(set(in_hand) & set(after.known[1 - call[1]]), set(), note)
            if call[0] == 19:
                in_deck = [number for number, face in after.truths[before.zone_of[call[2]]]]
                self.assertEqual(set(in_deck) & set(after.known[1 - call[1]]), set(), note)

    def test_tokens_are_seen_by_both(self):
        count = 0
        for moment, note in self.all_moments():
            for number in moment.zone_of:
                if moment.piece(number)["card"] == 0:
                    count += 1
                    self.assertTrue(moment.sees(0, number) and moment.sees(1, number), note)
        self.assertGreater(count, 100)

    def test_promise_5(self):
        count = 0
        for call, told, before, after, note in self.all_steps():
            if told[0] < 0:
                count += 1
                self.assertEqual(len(told), 1, note)
            if told[0] < 0 or call[0] in ASKING_CODES:
                self.assertEqual(after.kept, before.kept, note)
                self.assertEqual(after.asked, before.asked, note)
                self.assertEqual(after.knows, before.knows, note)
        self.assertGreater(count, 300)


def told_to(side, call):
    """Whether promise 4 speaks of the answer to this call."""
    if call[0] == 24:
        return False
    return call[0] not in ASKING_CODES or call[1] == side


class PromiseFour(unittest.TestCase):
    def calls_before_seen(self, drawn, side, cards):
        """How many calls go by, and no further begin, before the side sees one of the cards."""
        for at, moment in enumerate(drawn.moments):
            begun_again = at > 0 and drawn.game.calls[at][0] == 0
            if begun_again or moment.seen_cards(side) & set(cards):
                return at
        return CALLS

    def compare(self, drawn, side, cards):
        count = self.calls_before_seen(drawn, side, cards)
        calls = drawn.game.calls[:count]
        begin = list(calls[0])
        first, second = [4 + card for card in cards]
        if begin[first] == begin[second]:
            return 0
        begin[first], begin[second] = begin[second], begin[first]
        changed = split_answers(answers(line_of([tuple(begin)] + calls[1:])))
        for at, call in enumerate(calls):
            if told_to(side, call):
                self.assertEqual(changed[at], drawn.answers[at], (drawn.start, side, cards, at, call))
        return count

    def test_over_drawn_lines(self):
        compared = []
        for start in range(101, 121):
            drawn = Drawn(start)
            n0, n1 = drawn.game.calls[0][1:3]
            for owned in (range(1, n0 + 1), range(n0 + 1, n0 + n1 + 1)):
                for cards in [(first, second) for first in owned for second in owned if first < second]:
                    compared += [self.compare(drawn, side, cards) for side in (0, 1)]
        self.assertGreater(sum(compared), 20000)
        self.assertGreater(max(compared), 60)

    def swapped(self, begin, first, second):
        changed = list(begin)
        changed[4 + first], changed[4 + second] = begin[4 + second], begin[4 + first]
        return tuple(changed)

    def both_ways(self, begin, cards, calls):
        told = [split_answers(answers(line_of((one,) + calls))) for one in (begin, self.swapped(begin, *cards))]
        self.assertEqual(told[0], told[1])
        return told[0]

    def test_refusals_for_the_cap_tell_of_no_face(self):
        begin = (0, 3, 1, 0, 6, 5, 6, 8, 9)
        told = self.both_ways(begin, (1, 2), ((14, 0, 5, 3), (14, 0, 6, 3), (14, 0, 7, 250), (23, 0), (22, 1)))
        self.assertEqual(told[1:], [[-8], [-8], [-8], [0, 5, 6, 8], [0]])
        begin = (0, 2, 1, 0, 6, 5, 6, 9)
        for face in (5, 6, 7):
            told = self.both_ways(begin, (1, 2), ((5, 0, 2), (17, 0, face), (20, 1, 2), (22, 1), (23, 1)))
            self.assertEqual(told[1:], [[0, 0], [-8], [0, 0, -1, 0, -1], [0], [0, 9]])
        told = self.both_ways((0, 2, 0, 0, 2, 5, 6), (1, 2), ((15, 0), (23, 0), (20, 1, 0)))
        self.assertEqual(told[1:], [[-8], [0, 5, 6], [0, 0, -1, 0, -1]])

    def test_secret_moves_tell_of_no_face(self):
        calls = ((5, 0, 2), (2, 0, 4, 1), (20, 1, 0), (3, 0, 5, 3), (20, 1, 6), (21, 1, 7), (22, 1), (23, 1))
        told = self.both_ways((0, 2, 1, 0, 99, 5, 6, 9), (1, 2), calls)
        self.assertEqual(told[1:], [[0, 0], [0], [0, 0, -1], [0], [0, 7, -1], [0, 0], [0], [0, 9]])
        calls = ((12, 0, 2), (19, 0, 2), (20, 1, 2), (19, 0, 1), (19, 1, 1), (22, 1))
        told = self.both_ways((0, 2, 0, 0, 99, 5, 6), (1, 2), calls)
        self.assertEqual(told[1:], [[0], [0], [0, 0, -1], [-6], [-6], [0]])
