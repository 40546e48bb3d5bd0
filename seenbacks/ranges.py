"""How many numbers each call has, and the range of each of them."""

# By a call's number: the least and the greatest of each of its numbers, without its row.
BOUNDS = {
    0: ((0, 250), (0, 250), (0, 9223372036854775807), (0, 20000)),
    1: ((0, 1000000000), (0, 5), (0, 1000000000)),
    2: ((0, 1), (0, 1000000000), (0, 1000000000)),
    3: ((0, 1), (0, 1000000000), (3, 5)),
    4: ((0, 1000000000),),
    5: ((0, 1), (0, 250)),
    6: ((0, 1), (0, 250)),
    7: ((0, 1),),
    8: ((0, 1), (0, 250)),
    9: ((0, 1), (0, 1)),
    10: ((0, 1), (0, 1), (0, 250)),
    11: ((0, 1000000000),),
    12: ((0, 1), (0, 1000000000)),
    13: ((0, 2), (0, 1)),
    14: ((0, 1), (0, 1000000000), (0, 250)),
    15: ((0, 1),),
    16: ((0, 1),),
    17: ((0, 1), (0, 1000000000)),
    18: ((0, 1), (1, 1000000000), (1, 100)),
    19: ((0, 1), (0, 1000000000)),
    20: ((0, 1), (0, 8)),
    21: ((0, 1), (0, 1000000000)),
    22: ((0, 1),),
    23: ((0, 1),),
    24: ((0, 8),),
}

# Faces and object numbers have the same range, so both rows are held to this one.
ROW_BOUNDS = (0, 1000000000)

CALLS_WITH_ROW = (0, 9)


def has_row(code):
    return code in CALLS_WITH_ROW


def count_before_row(code):
    return len(BOUNDS[code])


def bounds_at(code, place):
    if place < len(BOUNDS[code]):
        return BOUNDS[code][place]
    return ROW_BOUNDS


def all_within(code, numbers):
    """Whether a call's numbers, with those of its row behind them, are in their ranges."""
    for place, number in enumerate(numbers):
        bounds = bounds_at(code, place)
        if number < bounds[0] or number > bounds[1]:
            return False
    return True
