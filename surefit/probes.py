"""The tests by gauges and measures that are possible in a state, and the states that can come of them."""

from surefit.checks import is_integer
from surefit.errors import BadTest
from surefit.lots import check_state


def gauge_tests(lot, ranges):
    # A gauge at the first size of a range or beyond its last one tells nothing new.
    return [("gauge", part, size) for part, (first, last) in enumerate(ranges)
            for size in lot.gauges if first < size <= last]


def measure_tests(lot, ranges):
    if lot.prices[1] is None:
        return []
    return [("measure", part) for part, (first, last) in enumerate(ranges) if first < last]


def possible_tests(lot, ranges):
    """All tests that are possible with these ranges, in order."""
    return gauge_tests(lot, ranges) + measure_tests(lot, ranges)


def is_like_test(test):
    """Whether this is a word and integers, so that it can be compared with tests."""
    if not isinstance(test, tuple) or len(test) == 0 or not isinstance(test[0], str):
        return False
    return all([is_integer(item) for item in test[1:]])


def is_possible_test(lot, ranges, test):
    return is_like_test(test) and test in possible_tests(lot, ranges)


def check_test(lot, state, test):
    if not is_possible_test(lot, state, test):
        raise BadTest("not a test that is possible in the state")


def parted_range(span, test):
    """The ranges into which a test divides the range of its part, in order."""
    first, last = span
    if test[0] == "gauge":
        return [(first, test[2] - 1), (test[2], last)]
    return [(size, size) for size in range(first, last + 1)]


def with_item(items, at, item):
    """This tuple with another item in one place."""
    return items[:at] + (item,) + items[at + 1:]


def outcomes(ranges, test):
    """The results of a test that is possible with these ranges, in order."""
    part = test[1]
    return [with_item(ranges, part, span) for span in parted_range(ranges[part], test)]


def outcome_index(ranges, test, sizes):
    """The index of that result of a test in which these sizes are, which are within the ranges."""
    part = test[1]
    spans = parted_range(ranges[part], test)
    return [first <= sizes[part] <= last for first, last in spans].index(True)


def test_price(lot, test):
    return lot.prices[0] if test[0] == "gauge" else lot.prices[1]


def all_tests(lot, state):
    """The list of all tests that are possible in the state, in order."""
    check_state(lot, state)
    return possible_tests(lot, state)


def results(lot, state, test):
    """The list of the states that a test can lead to, in order."""
    check_state(lot, state)
    check_test(lot, state, test)
    return outcomes(state, test)
