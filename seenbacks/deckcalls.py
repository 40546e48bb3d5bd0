"""The calls that speak of whole decks. Their numbers are within the ranges when they come here."""

from seenbacks.refusals import CAP_PASSED, NAMED_TWICE, NOT_ON_TOP, OUT_OF_RANGE, refusal_of_named
from seenbacks.state import SIDES, TO_DECK, TO_HAND, TO_VOID, deck_zone

MOST_NAMED = 250


def begin(state, numbers):
    first_count = numbers[0]
    total = numbers[0] + numbers[1]
    cap = numbers[3]
    faces = numbers[4:]
    if cap < total or len(faces) != total:
        return [OUT_OF_RANGE]
    state.renew(numbers[2], cap)
    for place, face in enumerate(faces):
        owner = 0 if place < first_count else 1
        state.give(place + 1, face, owner, TO_DECK, len(state.deck_of(owner)))
    return [0]


def count_there(state, side, asked):
    return min(asked, len(state.deck_of(side)))


def move_top(state, side, count, kind):
    for turn in range(count):
        state.move(state.deck_of(side)[0], kind, 0, SIDES)


def draw(state, numbers):
    side = numbers[0]
    asked = numbers[1]
    there = count_there(state, side, asked)
    if not state.has_room(there):
        return [CAP_PASSED]
    move_top(state, side, there, TO_HAND)
    return [0, asked - there]


def mill(state, numbers):
    side = numbers[0]
    there = count_there(state, side, numbers[1])
    if not state.has_room(there):
        return [CAP_PASSED]
    move_top(state, side, there, TO_VOID)
    return [0, there]


def mixed(state, deck):
    """The objects of a deck in an order drawn by chance."""
    changed = list(deck)
    length = len(deck)
    for place in range(length - 1, 0, -1):
        other = state.draw_below(place + 1)
        held = changed[place]
        changed[place] = changed[other]
        changed[other] = held
    return changed


def shuffle(state, numbers):
    deck = state.deck_of(numbers[0])
    length = len(deck)
    if not state.has_room(length):
        return [CAP_PASSED]
    for number in mixed(state, deck):
        # Each one beneath all others: after the last, just the new ones lie there in their order.
        state.move(number, TO_DECK, length, ())
    return [0]


def cut(state, numbers):
    side = numbers[0]
    count = numbers[1]
    deck = state.deck_of(side)
    if len(deck) < count:
        return [NOT_ON_TOP]
    state.zones[deck_zone(side)] = deck[count:] + deck[:count]
    return [0]


def refusal_of_order(state, side, named):
    """What is due, else 0, where the named are to be laid on top of a side's deck."""
    if len(named) > MOST_NAMED:
        return OUT_OF_RANGE
    refusal = refusal_of_named(state, named)
    if refusal < 0:
        return refusal
    if len(set(named)) < len(named):
        return NAMED_TWICE
    if sorted(named) != sorted(state.deck_of(side)[:len(named)]):
        return NOT_ON_TOP
    if not state.has_room(len(named)):
        return CAP_PASSED
    return 0


def order(state, numbers):
    side = numbers[1]
    named = numbers[2:]
    refusal = refusal_of_order(state, side, named)
    if refusal < 0:
        return [refusal]
    for place, number in enumerate(named):
        state.move(number, TO_DECK, place, (numbers[0],))
    return [0]


def peek(state, numbers):
    top = state.deck_of(numbers[1])[:numbers[2]]
    for number in top:
        state.learn(numbers[0], number)
    return [0, len(top)]


def show_top(state, side):
    """Show the top object of a side's deck to both sides, and tell its number."""
    top = state.deck_of(side)[0]
    state.show_to_both(top)
    return top


def until(state, numbers):
    side = numbers[0]
    there = count_there(state, side, numbers[2])
    # Counted as if all of them were moved: else the refusal would tell of faces that nobody was shown.
    if not state.has_room(there):
        return [CAP_PASSED]
    for passed in range(there):
        top = show_top(state, side)
        if state.pieces[top].face == numbers[1]:
            state.move(top, TO_HAND, 0, SIDES)
            return [0, 1, passed]
        state.move(top, TO_VOID, 0, SIDES)
    return [0, 0, there]


def flip(state, numbers):
    side = numbers[0]
    there = count_there(state, side, 1)
    if there == 0:
        return [0, 0]
    if not state.has_room(there):
        return [CAP_PASSED]
    top = show_top(state, side)
    if state.pieces[top].face % 2 == 0:
        state.move(top, TO_HAND, 0, SIDES)
        return [0, 1]
    state.move(top, TO_VOID, 0, SIDES)
    return [0, 2]


DECK_CALLS = {0: begin, 5: draw, 6: mill, 7: shuffle, 8: cut, 9: order, 10: peek, 14: until, 15: flip}


def answer_deck_call(state, code, numbers):
    return DECK_CALLS[code](state, numbers)
