"""The calls that speak of a side's hand, and token. Their numbers are within the ranges when they come here."""

from seenbacks.refusals import CAP_PASSED
from seenbacks.state import NO_CARD, SIDES, TO_FIELD, TO_VOID

BOTH_SIDES = 2


def reveal(state, numbers):
    watchers = SIDES if numbers[0] == BOTH_SIDES else (numbers[0],)
    hand = state.hand_of(numbers[1])
    for number in hand:
        for side in watchers:
            state.learn(side, number)
    return [0, len(hand)]


def lose(state, numbers):
    hand = state.hand_of(numbers[0])
    length = len(hand)
    if length == 0:
        return [0, 0]
    # Asked before chance goes on: a refused call changes nothing.
    if not state.has_room(1):
        return [CAP_PASSED]
    state.move(hand[state.draw_below(length)], TO_VOID, 0, SIDES)
    return [0, 1]


def match_hand(state, numbers):
    hand = list(state.hand_of(numbers[0]))
    # Counted as if all of them were moved: else the refusal would tell of faces that nobody was shown.
    if not state.has_room(len(hand)):
        return [CAP_PASSED]
    for number in hand:
        state.show_to_both(number)
    alike = [number for number in hand if state.pieces[number].face == numbers[1]]
    for number in alike:
        state.move(number, TO_VOID, 0, SIDES)
    return [0, len(alike)]


def token(state, numbers):
    count = numbers[2]
    if not state.has_room(count):
        return [CAP_PASSED]
    told = [0]
    for turn in range(count):
        told.append(state.give(NO_CARD, numbers[1], numbers[0], TO_FIELD, 0))
    return told


HAND_CALLS = {13: reveal, 16: lose, 17: match_hand, 18: token}


def is_hand_call(code):
    return code in HAND_CALLS


def answer_hand_call(state, code, numbers):
    return HAND_CALLS[code](state, numbers)
