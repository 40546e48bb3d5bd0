"""The calls that ask and change nothing. Their numbers are within the ranges when they come here."""

from seenbacks.refusals import refusal_of_named
from seenbacks.state import FIRST_OPEN_ZONE

NO_NUMBER = 0
NO_FACE = -1


def told_of(state, side, number):
    """The two numbers by which a side's view tells of an object."""
    piece = state.pieces[number]
    if state.sees(side, number):
        return [number, piece.face]
    # In a deck or a hand a hidden object's number would tell where it came from.
    if piece.zone < FIRST_OPEN_ZONE:
        return [NO_NUMBER, NO_FACE]
    return [number, NO_FACE]


def view(state, numbers):
    told = [0]
    for number in state.zones[numbers[1]]:
        told.extend(told_of(state, numbers[0], number))
    return told


def knows(state, numbers):
    number = numbers[1]
    refusal = refusal_of_named(state, [number])
    if refusal < 0:
        return [refusal]
    if not state.sees(numbers[0], number):
        return [0, 0]
    return [0, 1, state.pieces[number].face]


def known(state, numbers):
    return [0] + sorted(state.known[numbers[0]])


def is_in_rest(state, side, number):
    if not state.is_card(number) or state.pieces[number].owner != side:
        return False
    return not state.sees(side, number)


def rest(state, numbers):
    side = numbers[0]
    faces = []
    for lying in state.zones:
        faces.extend([state.pieces[number].face for number in lying if is_in_rest(state, side, number)])
    return [0] + sorted(faces)


def truth(state, numbers):
    told = [0]
    for number in state.zones[numbers[0]]:
        told.extend([number, state.pieces[number].face])
    return told


ASK_CALLS = {20: view, 21: knows, 22: known, 23: rest, 24: truth}


def is_ask_call(code):
    return code in ASK_CALLS


def answer_ask_call(state, code, numbers):
    return ASK_CALLS[code](state, numbers)
