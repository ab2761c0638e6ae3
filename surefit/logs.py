"""Logs: tests that were made in turn, each with the index of its result."""

from surefit.checks import is_integer_within, is_pair, is_short_sequence
from surefit.errors import BadLog
from surefit.lots import check_state
from surefit.probes import is_possible_test, outcomes, test_price


def is_entry(lot, state, item):
    """Whether this is a pair of a test that is possible in the state, and the index of one of its results."""
    if not is_pair(item) or not is_possible_test(lot, state, item[0]):
        return False
    return is_integer_within(item[1], 0, len(outcomes(state, item[0])) - 1)


def after_log(lot, state, log):
    """The state to which a log leads from this state."""
    check_state(lot, state)
    if not is_short_sequence(log):
        raise BadLog(None)
    for index, item in enumerate(log):
        if not is_entry(lot, state, item):
            raise BadLog(index)
        test, at = item
        state = outcomes(state, test)[at]
    return state


def spent(lot, state, log):
    """The list of the prices of the tests of a log."""
    # What is no log from the state is refused here, too.
    after_log(lot, state, log)
    return [test_price(lot, test) for test, _ in log]


def ruled_out(lot, state, log):
    """For each part, how many of its sizes are not possible any more after a log."""
    after = after_log(lot, state, log)
    return [(last - first) - (end - begin) for (first, last), (begin, end) in zip(state, after)]
