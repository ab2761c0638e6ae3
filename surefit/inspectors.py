"""Inspectors, which go by a fixed rule from test to test, and the most that it can cost until they are done."""

from surefit.checks import are_sizes_within, is_integer
from surefit.errors import BadInspector
from surefit.lots import check_many, check_state
from surefit.plans import StateRules, check_reach
from surefit.probes import measure_tests, outcome_index, parted_range, possible_tests, test_price

INSPECTORS = ("first", "cheap", "even", "wide")


def first_of_least(items, marks):
    """The first one of those items that have the least mark."""
    return items[marks.index(min(marks))]


def most_left(ranges, test):
    """By how much the last size of the part exceeds the first one in that result in which it has the most sizes."""
    return max([last - first for first, last in parted_range(ranges[test[1]], test)])


def narrowness(ranges, test):
    """A number that is less, the more sizes the range of the part has."""
    first, last = ranges[test[1]]
    return first - last


def chosen_test(lot, ranges, inspector):
    """The test that an inspector makes with these ranges, if they are not settled; None if no test is possible."""
    tests = possible_tests(lot, ranges)
    if not tests:
        return None
    if inspector == "first":
        return tests[0]
    if inspector == "cheap":
        return first_of_least(tests, [test_price(lot, test) for test in tests])
    if inspector == "even":
        return first_of_least(tests, [most_left(ranges, test) for test in tests])
    # Each part that can be tested can be measured, if there are measures.
    tests = measure_tests(lot, ranges) or tests
    return first_of_least(tests, [narrowness(ranges, test) for test in tests])


class Walker(StateRules):
    """An inspector at work on the states of a lot, until it is settled whether so many pairs fit."""

    def __init__(self, lot, many, inspector):
        super().__init__(lot, many)
        self.inspector = inspector

    def next_step(self, state):
        """The test that is made in this state, None if it is settled or no test is possible."""
        return None if self.is_done(state) else chosen_test(self.lot, state, self.inspector)

    def walk(self, state, sizes):
        """What all tests from this state on cost with these sizes, and the state in which no further one is made."""
        cost = 0
        test = self.next_step(state)
        while test is not None:
            cost = cost + self.step_price(test)
            state = self.places_after(state, test)[outcome_index(state, test, sizes)]
            test = self.next_step(state)
        return (cost, state)

    def is_height(self, heights, state):
        """Whether the height of this state, which is not settled, is enough for all that can come of it."""
        test = self.next_step(state)
        if test is None:
            return False
        left = heights[state] - self.step_price(test)
        return all([after in heights and heights[after] <= left for after in self.places_after(state, test)])

    def are_heights(self, heights):
        """Whether these are heights of states, such that from none of them on the tests cost more than its height."""
        if not isinstance(heights, dict):
            return False
        if not all([self.is_place(state) and is_integer(height) and height >= 0 for state, height in heights.items()]):
            return False
        return all([self.is_done(state) or self.is_height(heights, state) for state in heights])


class Survey:
    """All states to which an inspector comes from one state, and what its tests can cost from each of them on."""

    def __init__(self, walker):
        self.walker = walker
        self.heights = {}
        # States that are not settled, but in which no test is possible.
        self.open_ends = []

    def height(self, state):
        """The greatest cost of the tests that are made from this state on."""
        if state not in self.heights:
            self.heights[state] = self.height_over(state)
        return self.heights[state]

    def height_over(self, state):
        test = self.walker.next_step(state)
        if test is None:
            if not self.walker.is_done(state):
                self.open_ends.append(state)
            return 0
        heights = [self.height(after) for after in self.walker.places_after(state, test)]
        return self.walker.step_price(test) + max(heights)

    def dearest_end(self, state):
        """A state in which no further test is made, when those from this state on have cost as much as they can."""
        test = self.walker.next_step(state)
        while test is not None:
            places = self.walker.places_after(state, test)
            state = first_of_least(places, [-self.height(after) for after in places])
            test = self.walker.next_step(state)
        return state


def first_sizes(ranges):
    """Sizes that are in these ranges."""
    return tuple([first for first, last in ranges])


def check_inspector(inspector):
    if not isinstance(inspector, str) or inspector not in INSPECTORS:
        raise BadInspector("not the word for an inspector")


def walker_for(lot, state, many, inspector):
    """The inspector at work, after all arguments were checked."""
    check_state(lot, state)
    check_many(many)
    check_inspector(inspector)
    return Walker(lot, many, inspector)


class Ends:
    """The most that the tests of an inspector can cost, sizes with which they do, and heights that show it."""

    def __init__(self, total, sizes, heights):
        self.total = total
        self.sizes = sizes
        self.heights = {state: heights[state] for state in heights}

    def __eq__(self, other):
        return (isinstance(other, Ends) and self.total == other.total and self.sizes == other.sizes
                and self.heights == other.heights)

    def shows(self, lot, state, many, inspector):
        walker = walker_for(lot, state, many, inspector)
        if not is_integer(self.total) or not are_sizes_within(self.sizes, state):
            return False
        if walker.walk(state, self.sizes)[0] != self.total or not walker.are_heights(self.heights):
            return False
        return state in self.heights and self.heights[state] <= self.total


class Quits:
    """Sizes with which an inspector comes to a state that is not settled, without a test that is possible."""

    def __init__(self, sizes):
        self.sizes = sizes

    def __eq__(self, other):
        return isinstance(other, Quits) and self.sizes == other.sizes

    def shows(self, lot, state, many, inspector):
        walker = walker_for(lot, state, many, inspector)
        if not are_sizes_within(self.sizes, state):
            return False
        return not walker.is_done(walker.walk(state, self.sizes)[1])


def next_test(lot, state, many, inspector):
    """The test that the inspector makes in the state, None if it is settled or no test is possible."""
    return walker_for(lot, state, many, inspector).next_step(state)


def survey_of(lot, state, many, inspector):
    """A survey that knows the height of the state, after all arguments were checked."""
    walker = walker_for(lot, state, many, inspector)
    check_reach(state)
    survey = Survey(walker)
    survey.height(state)
    return survey


def judge(lot, state, many, inspector):
    """An Ends for the state, or a Quits if the inspector can come to an end before the state is settled."""
    survey = survey_of(lot, state, many, inspector)
    if survey.open_ends:
        return Quits(first_sizes(survey.open_ends[0]))
    return Ends(survey.height(state), first_sizes(survey.dearest_end(state)), survey.heights)


def worst_cost(lot, state, many, inspector):
    """The most that the tests of the inspector can cost, None if it can end before the state is settled."""
    survey = survey_of(lot, state, many, inspector)
    return None if survey.open_ends else survey.height(state)
