"""The cheapest tests that settle a state if all tests are fixed beforehand, or a result that shows that none do."""

from surefit.errors import TooLarge
from surefit.lots import check_many, check_state, is_settled, is_state
from surefit.plans import check_reach
from surefit.probes import is_like_test, possible_tests, test_price

MOST_TESTS = 10


def parts_of_range(span, part, tests):
    """The ranges that can be left of this range of a part when all of these tests were made, ascending."""
    first, last = span
    if ("measure", part) in tests:
        return [(size, size) for size in range(first, last + 1)]
    # All tests of this part are gauges.
    starts = [first] + sorted([test[2] for test in tests if test[1] == part])
    ends = [start - 1 for start in starts[1:]] + [last]
    return list(zip(starts, ends))


def subsets(tests):
    """All lists of some of these tests, none and all of them included."""
    found = [[]]
    for test in tests:
        found = found + [chosen + [test] for chosen in found]
    return found


class Bench:
    """The tests that are possible in a state, and what some of them settle when they are fixed beforehand."""

    def __init__(self, lot, state, many):
        self.lot = lot
        self.state = state
        self.many = many
        self.possible = possible_tests(lot, state)
        # Choices of tests have many results in common, so what was found out about a state is kept.
        self.settled = {}

    def is_settled_state(self, state):
        if state not in self.settled:
            self.settled[state] = is_settled(self.lot, state, self.many)
        return self.settled[state]

    def price(self, tests):
        return sum([test_price(self.lot, test) for test in tests])

    def ranges_left(self, tests):
        """For each part, the ranges that these tests can leave of its range."""
        return [parts_of_range(span, part, tests) for part, span in enumerate(self.state)]

    def all_results(self, tests):
        """All states that can come of these tests."""
        found = [()]
        for spans in self.ranges_left(tests):
            found = [before + (span,) for before in found for span in spans]
        return found

    def unsettled_result(self, tests):
        """The first result of these tests that is not settled, None if there is none."""
        for state in self.all_results(tests):
            if not self.is_settled_state(state):
                return state
        return None

    def is_unsettled_result(self, state, tests):
        if not is_state(self.lot, state):
            return False
        if not all([span in spans for span, spans in zip(state, self.ranges_left(tests))]):
            return False
        return not self.is_settled_state(state)

    def cheapest_tests(self):
        """Tests with the least sum of prices that settle the state, None if not even all tests do."""
        choices = sorted([(self.price(tests), tests) for tests in subsets(self.possible)])
        for _, tests in choices:
            if self.unsettled_result(tests) is None:
                return tests
        return None

    def are_enough(self, tests):
        """Whether this is a list of different possible tests that settle the state."""
        if not isinstance(tests, list):
            return False
        if not all([is_like_test(test) and test in self.possible for test in tests]):
            return False
        if not all([tests.count(test) == 1 for test in tests]):
            return False
        return self.unsettled_result(tests) is None

    def proof(self, inside, others, price):
        """A tree where these tests are in and the others neither in nor out, if no tests below this price do."""
        if self.price(inside) >= price:
            return ("price", None, None)
        result = self.unsettled_result(inside + others)
        if result is not None:
            return ("open", result, None)
        # There are others, as the tests that are in cost less than the cheapest that are enough.
        test, rest = others[0], others[1:]
        return (test, self.proof(inside + [test], rest, price), self.proof(inside, rest, price))

    def is_proof(self, tree, inside, others, price):
        """Whether this is a tree where these tests are in and the others neither in nor out, for this price."""
        if not isinstance(tree, tuple) or len(tree) != 3:
            return False
        head, first, second = tree
        if head == "price":
            return first is None and second is None and self.price(inside) >= price
        if head == "open":
            return second is None and self.is_unsettled_result(first, inside + others)
        if not is_like_test(head) or head not in others:
            return False
        rest = [test for test in others if test != head]
        return self.is_proof(first, inside + [head], rest, price) and self.is_proof(second, inside, rest, price)


class Batch:
    """Tests that settle a state at the least price when they are fixed beforehand, and a tree that shows it."""

    def __init__(self, tests, tree):
        self.tests = list(tests)
        self.tree = tree

    def __eq__(self, other):
        return isinstance(other, Batch) and self.tests == other.tests and self.tree == other.tree

    def __iter__(self):
        return iter(self.tests)

    def shows(self, lot, state, many):
        check_state(lot, state)
        check_many(many)
        bench = Bench(lot, state, many)
        if not bench.are_enough(self.tests):
            return False
        return bench.is_proof(self.tree, [], bench.possible, bench.price(self.tests))


class NoBatch:
    """A result of all tests that are possible, which is not settled."""

    def __init__(self, state):
        self.state = state

    def __eq__(self, other):
        return isinstance(other, NoBatch) and self.state == other.state

    def shows(self, lot, state, many):
        check_state(lot, state)
        check_many(many)
        bench = Bench(lot, state, many)
        return bench.is_unsettled_result(self.state, bench.possible)


def bench_for(lot, state, many):
    """The bench for these arguments, after all of them were checked."""
    check_state(lot, state)
    check_many(many)
    check_reach(state)
    bench = Bench(lot, state, many)
    if len(bench.possible) > MOST_TESTS:
        raise TooLarge("too many tests are possible in the state")
    return bench


def batch(lot, state, many):
    """A Batch for the state, or a NoBatch if not even all possible tests settle it."""
    bench = bench_for(lot, state, many)
    tests = bench.cheapest_tests()
    if tests is None:
        return NoBatch(bench.unsettled_result(bench.possible))
    return Batch(tests, bench.proof([], bench.possible, bench.price(tests)))


def batch_cost(lot, state, many):
    """The sum of the prices of the tests of a Batch, None if not even all possible tests settle the state."""
    bench = bench_for(lot, state, many)
    tests = bench.cheapest_tests()
    return None if tests is None else bench.price(tests)
