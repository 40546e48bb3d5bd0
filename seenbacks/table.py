"""The program's one way in: a line of calls, and what is answered to them."""

from seenbacks.askcalls import answer_ask_call, is_ask_call
from seenbacks.deckcalls import answer_deck_call
from seenbacks.handcalls import answer_hand_call, is_hand_call
from seenbacks.objectcalls import answer_object_call, is_object_call
from seenbacks.ranges import all_within, count_before_row, has_row
from seenbacks.refusals import OUT_OF_RANGE
from seenbacks.state import State


def answer_by_kind(state, code, numbers):
    if is_object_call(code):
        return answer_object_call(state, code, numbers)
    if is_hand_call(code):
        return answer_hand_call(state, code, numbers)
    if is_ask_call(code):
        return answer_ask_call(state, code, numbers)
    return answer_deck_call(state, code, numbers)


def answer(state, code, numbers):
    """One call's answer; a row's numbers stand behind the call's others, without their count."""
    if not all_within(code, numbers):
        return [OUT_OF_RANGE]
    told = answer_by_kind(state, code, numbers)
    state.tidy()
    return told


def numbers_of_call(calls, start):
    """The numbers of the call whose own number stands at the start, its row's behind the others."""
    row_start = start + 1 + count_before_row(calls[start])
    numbers = calls[start + 1:row_start]
    if has_row(calls[start]):
        numbers.extend(calls[row_start + 1:row_start + 1 + calls[row_start]])
    return numbers


def answers(calls):
    state = State()
    told = []
    start = 0
    while start < len(calls):
        code = calls[start]
        numbers = numbers_of_call(calls, start)
        told_now = answer(state, code, numbers)
        told.append(len(told_now))
        told.extend(told_now)
        start += 1 + len(numbers)
        if has_row(code):
            start += 1
    return told
