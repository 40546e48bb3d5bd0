"""The calls that name one object. Their numbers are within the ranges when they come here."""

from seenbacks.refusals import CAP_PASSED, ELSEWHERE, NOT_SEEN, OUT_OF_RANGE, refusal_of_named
from seenbacks.state import SIDES, TO_DECK, TO_FIELD, TO_HAND, TO_RIFT, deck_zone, hand_zone


def put(state, numbers):
    number = numbers[0]
    kind = numbers[1]
    refusal = refusal_of_named(state, [number])
    if refusal < 0:
        return [refusal]
    if state.goes_on(number, kind) and not state.has_room(1):
        return [CAP_PASSED]
    state.move(number, kind, numbers[2], SIDES)
    return [0]


def refusal_from_hand(state, side, number):
    """What is due, else 0, where one object of a side's hand is to be moved."""
    refusal = refusal_of_named(state, [number])
    if refusal < 0:
        return refusal
    if state.pieces[number].zone != hand_zone(side):
        return ELSEWHERE
    if not state.has_room(1):
        return CAP_PASSED
    return 0


def move_secretly(state, side, number, kind, place):
    """From a side's hand, so that the other one can't tell any more what is left there."""
    successor = state.move(number, kind, place, (side,))
    state.forget_zone(1 - side, hand_zone(side))
    return successor


def away(state, numbers):
    side = numbers[0]
    number = numbers[1]
    refusal = refusal_from_hand(state, side, number)
    if refusal < 0:
        return [refusal]
    move_secretly(state, side, number, TO_DECK, numbers[2])
    return [0]


def down(state, numbers):
    side = numbers[0]
    number = numbers[1]
    kind = numbers[2]
    if kind != TO_FIELD and kind != TO_RIFT:
        return [OUT_OF_RANGE]
    refusal = refusal_from_hand(state, side, number)
    if refusal < 0:
        return [refusal]
    successor = move_secretly(state, side, number, kind, 0)
    state.pieces[successor].face_down = True
    return [0]


def up(state, numbers):
    number = numbers[0]
    refusal = refusal_of_named(state, [number])
    if refusal < 0:
        return [refusal]
    if not state.pieces[number].face_down:
        return [ELSEWHERE]
    state.pieces[number].face_down = False
    return [0]


def show(state, numbers):
    number = numbers[0]
    refusal = refusal_of_named(state, [number])
    if refusal < 0:
        return [refusal]
    state.show_to_both(number)
    return [0]


def look(state, numbers):
    number = numbers[1]
    refusal = refusal_of_named(state, [number])
    if refusal < 0:
        return [refusal]
    state.learn(numbers[0], number)
    return [0]


def refusal_of_fetch(state, side, number):
    """What is due, else 0, where a side is to take one object out of a deck."""
    refusal = refusal_of_named(state, [number])
    if refusal < 0:
        return refusal
    zone = state.pieces[number].zone
    if zone != deck_zone(0) and zone != deck_zone(1):
        return ELSEWHERE
    if not state.sees(side, number):
        return NOT_SEEN
    if not state.has_room(1):
        return CAP_PASSED
    return 0


def fetch(state, numbers):
    side = numbers[0]
    number = numbers[1]
    refusal = refusal_of_fetch(state, side, number)
    if refusal < 0:
        return [refusal]
    zone = state.pieces[number].zone
    state.move(number, TO_HAND, 0, (side,))
    # The other side can't tell which of the deck was taken, so of none that is left what it is.
    state.forget_zone(1 - side, zone)
    return [0]


OBJECT_CALLS = {1: put, 2: away, 3: down, 4: up, 11: show, 12: look, 19: fetch}


def is_object_call(code):
    return code in OBJECT_CALLS


def answer_object_call(state, code, numbers):
    return OBJECT_CALLS[code](state, numbers)
