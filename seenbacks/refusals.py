"""The refusals, nearest to 0 first: a call asks for them in this order and answers the first that is due."""

OUT_OF_RANGE = -1
NEVER_GIVEN = -2
GONE = -3
ELSEWHERE = -4
NAMED_TWICE = -5
NOT_SEEN = -6
NOT_ON_TOP = -7
CAP_PASSED = -8


def refusal_of_named(state, named):
    """NEVER_GIVEN or GONE if it is due for one of the named objects, else 0."""
    if any([not state.is_given(number) for number in named]):
        return NEVER_GIVEN
    if any([not state.is_live(number) for number in named]):
        return GONE
    return 0
