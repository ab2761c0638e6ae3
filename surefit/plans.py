"""The least cost at which a state is settled by tests that are chosen as one goes, or why none settles it.

Searching and checking are written over rules: an object that tells of a lot and a number of pairs what counts as a
place, where one is done, which steps are possible, what they cost and where they lead. Here the places are states and
the steps are tests; grinding has other places and further steps.
"""

from surefit.checks import is_integer, is_pair
from surefit.errors import TooLarge
from surefit.lots import check_many, check_state, is_settled, is_state
from surefit.probes import is_like_test, outcomes, possible_tests, test_price

MOST_STATES = 600


class StateRules:
    """Going from state to state by tests, until the state is settled."""

    def __init__(self, lot, many):
        self.lot = lot
        self.many = many

    def is_place(self, value):
        return is_state(self.lot, value)

    def is_done(self, place):
        return is_settled(self.lot, place, self.many)

    def possible_steps(self, place):
        return possible_tests(self.lot, place)

    def step_price(self, step):
        return test_price(self.lot, step)

    def places_after(self, place, step):
        return outcomes(place, step)


class Search:
    """The least costs of trees for all places to which one can come, and first steps of such trees."""

    def __init__(self, rules):
        self.rules = rules
        # The cost is None for a place without a tree; a place has no first step if it is done or has no tree.
        self.costs = {}
        self.first_steps = {}

    def least_cost(self, place):
        """The least cost of a tree for this place, None if there is none."""
        if place not in self.costs:
            self.look_at(place)
        return self.costs[place]

    def look_at(self, place):
        # No step leads back to an earlier place, so this place is not asked for before it is known.
        least = 0 if self.rules.is_done(place) else None
        if least is None:
            for step in self.rules.possible_steps(place):
                cost = self.cost_by(place, step)
                if cost is not None and (least is None or cost < least):
                    least = cost
                    self.first_steps[place] = step
        self.costs[place] = least

    def cost_by(self, place, step):
        """The least cost of a tree that begins with this step, None if there is none."""
        costs = [self.least_cost(after) for after in self.rules.places_after(place, step)]
        if None in costs:
            return None
        return self.rules.step_price(step) + max(costs)

    def cheapest_tree(self, place):
        """A tree of the least cost, for a place that has one."""
        if place not in self.first_steps:
            return None
        step = self.first_steps[place]
        return (step, tuple([self.cheapest_tree(after) for after in self.rules.places_after(place, step)]))

    def levels_up_to(self, bound):
        """A level for each place that is not done: its least cost, but at most the bound."""
        # From a place without a tree each step leads to such a place, too, so that all of them can have the bound.
        return {place: bound if cost is None else min(cost, bound)
                for place, cost in self.costs.items() if cost != 0}

    def places_without_tree(self):
        return [place for place, cost in self.costs.items() if cost is None]


def is_possible_step(rules, place, step):
    return is_like_test(step) and step in rules.possible_steps(place)


def tree_cost(rules, place, tree):
    """What this tree costs, None if it is not a tree for this place."""
    if rules.is_done(place):
        return 0 if tree is None else None
    if not is_pair(tree) or not is_possible_step(rules, place, tree[0]):
        return None
    step, branches = tree
    places = rules.places_after(place, step)
    if not isinstance(branches, tuple) or len(branches) != len(places):
        return None
    costs = [tree_cost(rules, after, branch) for after, branch in zip(places, branches)]
    if None in costs:
        return None
    return rules.step_price(step) + max(costs)


def is_level(rules, levels, place):
    """Whether the level of this place, which is greater than 0, is not more than its steps allow."""
    if rules.is_done(place):
        return False
    for step in rules.possible_steps(place):
        greatest = max([0] + [levels.get(after, 0) for after in rules.places_after(place, step)])
        if rules.step_price(step) + greatest < levels[place]:
            return False
    return True


def are_levels(rules, levels):
    """Whether these are levels of places, such that no tree for a place costs less than its level."""
    if not isinstance(levels, dict):
        return False
    if not all([rules.is_place(place) and is_integer(level) for place, level in levels.items()]):
        return False
    return all([is_level(rules, levels, place) for place, level in levels.items() if level > 0])


def is_least(rules, place, bound, tree, levels):
    """Whether the bound is the cost of this tree, and the levels show that no tree for this place costs less."""
    if not is_integer(bound) or tree_cost(rules, place, tree) != bound:
        return False
    if not are_levels(rules, levels):
        return False
    # A state that is done may have any level that is not greater than 0, also one below the bound.
    return bound == 0 or levels.get(place, 0) >= bound


def leads_into(rules, place, step, known):
    return any([after in known for after in rules.places_after(place, step)])


def is_without_tree(rules, place, places):
    """Whether this list of places shows that the place has no tree."""
    if not isinstance(places, list) or not all([rules.is_place(other) for other in places]):
        return False
    known = {other: True for other in places}
    if place not in known or any([rules.is_done(other) for other in known]):
        return False
    return all([leads_into(rules, other, step, known) for other in known for step in rules.possible_steps(other)])


class Plan:
    """The least cost of a tree for a state, such a tree, and levels that show that none costs less."""

    def __init__(self, bound, tree, levels):
        self.bound = bound
        self.tree = tree
        self.levels = {state: levels[state] for state in levels}

    def __eq__(self, other):
        return (isinstance(other, Plan) and self.bound == other.bound and self.tree == other.tree
                and self.levels == other.levels)

    def shows(self, lot, state, many):
        check_state(lot, state)
        check_many(many)
        return is_least(StateRules(lot, many), state, self.bound, self.tree, self.levels)


class Stuck:
    """States that are not settled, among which each test has a result again."""

    def __init__(self, states):
        self.states = list(states)

    def __eq__(self, other):
        return isinstance(other, Stuck) and self.states == other.states

    def __iter__(self):
        return iter(self.states)

    def shows(self, lot, state, many):
        check_state(lot, state)
        check_many(many)
        return is_without_tree(StateRules(lot, many), state, self.states)


def count_states(ranges):
    """How many states there are within these ranges."""
    count = 1
    for first, last in ranges:
        sizes = last - first + 1
        count = count * (sizes * (sizes + 1) // 2)
    return count


def check_reach(state):
    if count_states(state) > MOST_STATES:
        raise TooLarge("there are too many states within this one")


def searched(lot, state, many):
    """A search for trees of this state, after all arguments were checked."""
    check_state(lot, state)
    check_many(many)
    check_reach(state)
    return Search(StateRules(lot, many))


def plan(lot, state, many):
    """A Plan for the state, or a Stuck if no tests settle it whatever the sizes are."""
    search = searched(lot, state, many)
    bound = search.least_cost(state)
    if bound is None:
        return Stuck(search.places_without_tree())
    return Plan(bound, search.cheapest_tree(state), search.levels_up_to(bound))


def plan_cost(lot, state, many):
    """The least cost at which the state is settled, None if no tests settle it whatever the sizes are."""
    return searched(lot, state, many).least_cost(state)
