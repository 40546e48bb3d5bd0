"""The document told a second time, as slowly and plainly as it goes, and compared over drawn lines.

Here each object keeps who knows it, a call is played on a copy that is thrown away where the call is refused, and the
cap is asked for when a number is given: so that a slip on one side is hardly one on the other.
"""

import copy
import unittest

from seenbacks.table import answers
from tests.helper import MOST, Dice, Game, drawn_begin, drawn_call

FORMS = {
    0: ["n250", "n250", "seed", "any", "row"], 1: ["o", "kind", "place"], 2: ["s", "o", "place"],
    3: ["s", "o", "downkind"], 4: ["o"], 5: ["s", "n250"], 6: ["s", "n250"], 7: ["s"], 8: ["s", "n250"],
    9: ["s", "s", "row"], 10: ["s", "s", "n250"], 11: ["o"], 12: ["s", "o"], 13: ["s2", "s"],
    14: ["s", "face", "n250"], 15: ["s"], 16: ["s"], 17: ["s", "face"], 18: ["s", "sort", "n100"], 19: ["s", "o"],
    20: ["s", "z"], 21: ["s", "o"], 22: ["s"], 23: ["s"], 24: ["z"],
}
ALLOWED = {
    "n250": range(251), "seed": range(2 ** 63), "any": range(-2 ** 63, 2 ** 63), "o": range(MOST + 1),
    "kind": range(6), "downkind": (3, 5), "place": range(MOST + 1), "s": range(2), "s2": range(3),
    "face": range(MOST + 1), "sort": range(1, MOST + 1), "n100": range(1, 101), "z": range(9),
}


class Refused(Exception):
    pass


def hold(number, condition):
    if not condition:
        raise Refused(number)


class Thing:
    def __init__(self, number, face, owner, token, zone):
        self.number = number
        self.face = face
        self.owner = owner
        self.token = token
        self.zone = zone
        self.down = False
        self.live = True
        self.knowers = set()

    def hidden(self):
        return self.zone < 4 or self.down

    def seen_by(self, side):
        return not self.hidden() or self.zone == 2 + side or side in self.knowers


class Telling:
    def __init__(self):
        self.begin(0, 0, 0, 0, [])

    def begin(self, n0, n1, seed, cap, faces):
        hold(-1, n0 + n1 <= cap <= 20000 and len(faces) == n0 + n1)
        hold(-1, all(0 <= face <= MOST for face in faces))
        self.things = {}
        self.zones = [[] for zone in range(9)]
        self.cap = cap
        self.chance = seed
        for at, face in enumerate(faces):
            owner = int(at >= n0)
            self.come(face, owner, False, owner, len(self.zones[owner]))

    def come(self, face, owner, token, zone, at):
        number = len(self.things) + 1
        hold(-8, number <= self.cap)
        thing = Thing(number, face, owner, token, zone)
        self.things[number] = thing
        self.zones[zone] = self.zones[zone][:at] + [thing] + self.zones[zone][at:]
        return thing

    def named(self, *numbers):
        hold(-2, all(number in self.things for number in numbers))
        hold(-3, all(self.things[number].live for number in numbers))
        return [self.things[number] for number in numbers]

    def move(self, thing, kind, place=0, followers=(0, 1)):
        saw = {side for side in followers if thing.seen_by(side)}
        self.zones[thing.zone] = [other for other in self.zones[thing.zone] if other is not thing]
        thing.live = False
        if thing.token and kind != 3:
            return None
        zone = (thing.owner, 2 + thing.owner, 4 + thing.owner, 6, 7, 8)[kind]
        at = {0: place, 2: 0, 4: 0}.get(kind, len(self.zones[zone]))
        successor = self.come(thing.face, thing.owner, thing.token, zone, at)
        successor.knowers = saw
        return successor

    def below(self, n):
        self.chance = (self.chance * 6364136223846793005 + 1442695040888963407) & (2 ** 64 - 1)
        return (self.chance >> 33) % n

    def forget(self, side, zone):
        for thing in self.zones[zone]:
            thing.knowers.discard(side)

    def show(self, things, sides=(0, 1)):
        for thing in things:
            thing.knowers.update(sides)

    def call_0(self, *numbers):
        self.begin(*numbers)
        return []

    def call_1(self, o, kind, place):
        self.move(self.named(o)[0], kind, place)
        return []

    def out_of_hand(self, s, o):
        thing = self.named(o)[0]
        hold(-4, thing.zone == 2 + s)
        return thing

    def call_2(self, s, o, place):
        self.move(self.out_of_hand(s, o), 0, place, (s,))
        self.forget(1 - s, 2 + s)
        return []

    def call_3(self, s, o, kind):
        self.move(self.out_of_hand(s, o), kind, 0, (s,)).down = True
        self.forget(1 - s, 2 + s)
        return []

    def call_4(self, o):
        thing = self.named(o)[0]
        hold(-4, thing.down)
        thing.down = False
        thing.knowers = set()
        return []

    def call_5(self, p, n):
        there = self.zones[p][:n]
        for thing in there:
            self.move(thing, 1)
        return [n - len(there)]

    def call_6(self, p, n):
        there = self.zones[p][:n]
        for thing in there:
            self.move(thing, 2)
        return [len(there)]

    def call_7(self, p):
        deck = list(self.zones[p])
        for i in reversed(range(1, len(deck))):
            j = self.below(i + 1)
            deck[i], deck[j] = deck[j], deck[i]
        for thing in deck:
            self.move(thing, 0, 0, ())
        # All that lies there is new by now, and the topmost has the least number.
        self.zones[p] = sorted(self.zones[p], key=lambda thing: thing.number)
        return []

    def call_8(self, p, k):
        hold(-7, k <= len(self.zones[p]))
        for turn in range(k):
            self.zones[p].append(self.zones[p].pop(0))
        return []

    def call_9(self, s, p, row):
        hold(-1, len(row) <= 250 and all(0 <= number <= MOST for number in row))
        things = self.named(*row)
        hold(-5, all(row.count(number) == 1 for number in row))
        hold(-7, {thing.number for thing in self.zones[p][:len(row)]} == set(row))
        new = [self.move(thing, 0, 0, (s,)) for thing in things]
        self.zones[p] = new + self.zones[p][len(new):]
        return []

    def call_10(self, s, p, n):
        top = self.zones[p][:n]
        self.show(top, (s,))
        return [len(top)]

    def call_11(self, o):
        self.show(self.named(o))
        return []

    def call_12(self, s, o):
        self.show(self.named(o), (s,))
        return []

    def call_13(self, s, p):
        self.show(self.zones[2 + p], (0, 1) if s == 2 else (s,))
        return [len(self.zones[2 + p])]

    def room_for(self, count):
        hold(-8, count == 0 or len(self.things) + count <= self.cap)

    def call_14(self, p, k, n):
        self.room_for(min(n, len(self.zones[p])))
        to_void = 0
        while n > 0 and self.zones[p]:
            n -= 1
            top = self.zones[p][0]
            self.show([top])
            if top.face == k:
                self.move(top, 1)
                return [1, to_void]
            self.move(top, 2)
            to_void += 1
        return [0, to_void]

    def call_15(self, p):
        for top in self.zones[p][:1]:
            self.show([top])
            self.move(top, 1 + top.face % 2)
            return [1 + top.face % 2]
        return [0]

    def call_16(self, p):
        hand = self.zones[2 + p]
        if hand:
            self.move(hand[self.below(len(hand))], 2)
            return [1]
        return [0]

    def call_17(self, p, k):
        hand = list(self.zones[2 + p])
        self.room_for(len(hand))
        self.show(hand)
        return [len([self.move(thing, 2) for thing in hand if thing.face == k])]

    def call_18(self, p, sort, n):
        return [self.come(sort, p, True, 6, len(self.zones[6])).number for turn in range(n)]

    def call_19(self, s, o):
        thing = self.named(o)[0]
        deck = thing.zone
        hold(-4, deck in (0, 1))
        hold(-6, thing.seen_by(s))
        self.move(thing, 1, 0, (s,))
        self.forget(1 - s, deck)
        return []

    def call_20(self, p, z):
        told = []
        for thing in self.zones[z]:
            number = thing.number if thing.seen_by(p) or z > 3 else 0
            told += [number, thing.face if thing.seen_by(p) else -1]
        return told

    def call_21(self, p, o):
        thing = self.named(o)[0]
        return [1, thing.face] if thing.seen_by(p) else [0]

    def lying(self):
        return [thing for thing in self.things.values() if thing.live]

    def call_22(self, p):
        return [thing.number for thing in self.lying() if thing.hidden() and thing.seen_by(p) and thing.zone != 2 + p]

    def call_23(self, p):
        return sorted(thing.face for thing in self.lying()
                      if not thing.token and thing.owner == p and not thing.seen_by(p))

    def call_24(self, z):
        return [number for thing in self.zones[z] for number in (thing.number, thing.face)]


def told_again(numbers):
    """What answers tells, by the second telling."""
    telling = Telling()
    rest = list(numbers)
    told = []
    while rest:
        code = rest.pop(0)
        taken = []
        wrong = False
        for form in FORMS[code]:
            if form == "row":
                count = rest.pop(0)
                taken.append(rest[:count])
                rest = rest[count:]
            else:
                taken.append(rest.pop(0))
                wrong = wrong or taken[-1] not in ALLOWED[form]
        trial = copy.deepcopy(telling)
        try:
            hold(-1, not wrong)
            answer = [0] + getattr(trial, f"call_{code}")(*taken)
            telling = trial
        except Refused as refused:
            answer = [refused.args[0]]
        told += [len(answer)] + answer
    return told


def drawn_line(start, n0, n1):
    dice = Dice(start)
    game = Game()
    game.call(*drawn_begin(dice, n0, n1))
    while len(game.calls) < 130:
        call = drawn_call(dice, game)
        if not dice.below(25):
            at = 1 + dice.below(len(call) - 1) if len(call) > 1 else 0
            call = call[:at] + (dice.one_of((-1, 0, 1, 2, 3, 8, 9, 250, 251, MOST, MOST + 1)),) + call[at + 1:]
        if call[0] in FORMS:
            game.call(*call)
    return game.line


class SecondTelling(unittest.TestCase):
    def compare(self, numbers, note):
        self.assertEqual(answers(numbers), told_again(numbers), note)

    def test_drawn_lines(self):
        for start in range(201, 241):
            self.compare(drawn_line(start, start % 13, start % 17), start)

    def test_drawn_lines_upon_the_greatest_decks(self):
        for start in range(301, 304):
            line = drawn_line(start, 250, 250)
            self.assertLessEqual(len(line), 16000)
            self.compare(line, start)

    def test_without_a_begin(self):
        dice = Dice(5)
        game = Game()
        while len(game.calls) < 130:
            game.call(*drawn_call(dice, game))
        self.compare(game.line, 5)
