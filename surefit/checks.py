"""What kinds of values are asked for: integers, pairs and ranges, as lots, states and tests are made of."""

GREATEST_SIZE = 30
GREATEST_SPREAD = 3
MOST_PARTS = 3
GREATEST_GAP = 9
MOST_GAUGES = 4
GREATEST_PRICE = 9
MOST_IN_TURN = 12


def is_integer(value):
    # Python counts True and False among the integers, the document does not.
    return isinstance(value, int) and not isinstance(value, bool)


def is_integer_within(value, least, greatest):
    return is_integer(value) and least <= value <= greatest


def is_pair(value):
    return isinstance(value, tuple) and len(value) == 2


def is_span_within(value, least, greatest):
    """Whether this is a pair of integers within these limits, the second one no less than the first one."""
    if not is_pair(value):
        return False
    if not is_integer_within(value[0], least, greatest):
        return False
    return is_integer_within(value[1], value[0], greatest)


def is_range(value):
    return is_span_within(value, 0, GREATEST_SIZE) and value[1] - value[0] <= GREATEST_SPREAD


def is_ranges(value):
    """Whether this can be the pins or the bores of a lot."""
    if not isinstance(value, tuple) or not 1 <= len(value) <= MOST_PARTS:
        return False
    return all([is_range(item) for item in value])


def is_gap(value):
    return is_span_within(value, -GREATEST_GAP, GREATEST_GAP)


def is_gauges(value):
    if not isinstance(value, tuple) or len(value) > MOST_GAUGES:
        return False
    if not all([is_integer_within(size, 1, GREATEST_SIZE) for size in value]):
        return False
    return all([size < following for size, following in zip(value, value[1:])])


def is_prices(value):
    if not is_pair(value) or not is_integer_within(value[0], 1, GREATEST_PRICE):
        return False
    return value[1] is None or is_integer_within(value[1], 1, GREATEST_PRICE)


def are_sizes_within(value, ranges):
    """Whether this is a tuple with a size for each of these ranges, within it."""
    if not isinstance(value, tuple) or len(value) != len(ranges):
        return False
    return all([is_integer_within(size, first, last) for size, (first, last) in zip(value, ranges)])


def is_short_sequence(value):
    """Whether this is a list or tuple with no more items than tests can be given at once, to be made in turn."""
    return isinstance(value, (list, tuple)) and len(value) <= MOST_IN_TURN
