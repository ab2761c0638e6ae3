"""Point 5: plans, as one goes."""

import unittest
from itertools import product

from surefit.errors import BadLot, BadMany, BadState, TooLarge
from surefit.lots import Lot
from surefit.plans import Plan, Stuck, plan, plan_cost
from surefit.probes import all_tests, results
from tests.samples import (STRANGE, WRONG_MANY, all_states, changed_levels, changed_trees, lot_with, nested_lists,
                           slow_levels, slow_plan_cost, slow_price, slow_results, slow_tests, slow_tree_cost,
                           slow_verdict)

SHAPES = [
    (((4, 7),), ((6, 8),)),
    (((4, 5), (5, 6)), ((7, 8),)),
    (((4, 5),), ((6, 7), (7, 9))),
    (((4, 5), (5, 6)), ((7, 8), (6, 7))),
    (((4, 5), (5, 5), (6, 6)), ((7, 8), (6, 7), (8, 8))),
    (((4, 5), (4, 4), (6, 7)), ((6, 7), (6, 6), (7, 8))),
]
GAPS = [(2, 2), (1, 2), (0, 3)]
GAUGES = [(), (6,), (5, 7), (5, 6, 7, 8)]
PRICES = [(1, None), (1, 1), (2, 1), (1, 3), (4, 9)]

TWO = lot_with()
SHUT = lot_with(gauges=(5,))
START = TWO.start()
TREE = (("gauge", 0, 5), ((("gauge", 1, 7), (None, None)), (("gauge", 2, 9), (None, None))))
LEVELS = {START: 2, ((4, 4), (6, 7), (8, 9)): 1, ((4, 5), (7, 7), (8, 9)): 1, ((4, 5), (6, 7), (8, 8)): 1}
SMALL = ((4, 4), (6, 7), (8, 9))


def lots():
    for (pins, bores), gap, gauges, prices in product(SHAPES, GAPS, GAUGES, PRICES):
        yield Lot(pins, bores, gap, gauges, prices)


def rules(lot, many):
    """What the slow answers go by: when a state is settled, and the tests with their prices and results."""
    return (lambda state: slow_verdict(lot, state, many) is not None, lambda state: slow_tests(lot, state),
            lambda test: slow_price(lot, test), slow_results)


class Costs(unittest.TestCase):

    def test_the_example(self):
        self.assertEqual(plan_cost(TWO, START, 1), 2)
        self.assertIsNone(plan_cost(SHUT, START, 1))
        self.assertEqual(plan_cost(lot_with(gauges=(5,), prices=(1, 3)), START, 1), 4)

    def test_many_lots(self):
        found = {}
        for lot in lots():
            for many in (1, 2, 3):
                cost = plan_cost(lot, lot.start(), many)
                self.assertEqual(cost, slow_plan_cost(lot, lot.start(), many))
                found.setdefault(many, []).append(cost)
        # So that the lots have something to tell for each number of pairs: no plan, none needed, several tests.
        for costs in found.values():
            self.assertTrue({None, 0, 3, 4} < set(costs))

    def test_all_states_of_a_lot(self):
        lot = Lot(((4, 6),), ((6, 7), (8, 9)), (2, 3), (5, 7), (2, 3))
        for state in all_states(lot):
            for many in (1, 2):
                self.assertEqual(plan_cost(lot, state, many), slow_plan_cost(lot, state, many))

    def test_a_gauge_or_a_measure(self):
        # One pin of four sizes, of which the second one alone fits: one measure, or two gauges.
        for prices, cost in [((1, None), 2), ((1, 1), 1), ((1, 2), 2), ((1, 9), 2), ((5, 9), 9), ((4, 9), 8)]:
            lot = Lot(((4, 7),), ((5, 5),), (0, 0), (5, 6, 7), prices)
            self.assertEqual(plan_cost(lot, lot.start(), 1), cost)

    def test_the_dearest_way_counts(self):
        # The gauge tells whether the pin fits, or whether it is worth while to go on.
        for gap, cost in [((2, 3), 1), ((2, 2), 3), ((0, 2), 3), ((0, 1), 1)]:
            lot = Lot(((4, 7),), ((7, 7),), gap, (6,), (1, 3))
            self.assertEqual(plan_cost(lot, lot.start(), 1), cost)

    def test_what_a_settled_state_costs(self):
        for many in (2, 3):
            self.assertEqual(plan_cost(TWO, START, many), 0)
        self.assertEqual(plan_cost(TWO, ((4, 4), (7, 7), (8, 9)), 1), 0)
        self.assertEqual(plan_cost(lot_with(gauges=()), ((4, 4), (6, 6), (8, 9)), 1), 0)

    def test_without_any_test(self):
        lot = lot_with(gauges=())
        self.assertIsNone(plan_cost(lot, START, 1))


class Plans(unittest.TestCase):

    def test_many_lots(self):
        for lot in lots():
            for many in (1, 2, 3):
                state = lot.start()
                found, cost = plan(lot, state, many), plan_cost(lot, state, many)
                self.assertIs(found.__class__, Stuck if cost is None else Plan)
                self.assertIs(found.shows(lot, state, many), True)
                if cost is not None:
                    self.assertEqual(found.bound, cost)
                    self.assertEqual(slow_tree_cost(state, found.tree, *rules(lot, many)), cost)
                    self.assertTrue(slow_levels(found.levels, state, cost, *rules(lot, many)))

    def test_kinds_of_values(self):
        found = plan(TWO, START, 1)
        self.assertIs(found.__class__, Plan)
        self.assertEqual([value.__class__ for value in (found.bound, found.tree, found.levels)], [int, tuple, dict])
        for state, level in found.levels.items():
            self.assertIn(state, all_states(TWO))
            self.assertIs(level.__class__, int)

    def test_a_settled_state(self):
        found = plan(TWO, START, 2)
        self.assertEqual([found.bound, found.tree], [0, None])
        self.assertTrue(found.shows(TWO, START, 2))

    def test_a_plan_for_another_state_or_number_shows_nothing(self):
        found = plan(TWO, START, 1)
        self.assertFalse(found.shows(TWO, SMALL, 1))
        self.assertFalse(found.shows(TWO, START, 2))
        self.assertFalse(found.shows(SHUT, START, 1))
        self.assertFalse(found.shows(lot_with(prices=(2, None)), START, 1))

    def test_a_plan_for_a_lot_that_it_is_also_right_for(self):
        # Measures that are dear enough, or of no more use than the gauges, leave the plan right.
        for prices in [(1, 1), (1, 2), (1, 9)]:
            self.assertTrue(plan(TWO, START, 1).shows(lot_with(prices=prices), START, 1))


class ShowsOfPlans(unittest.TestCase):

    def shows(self, bound, tree, levels, lot=TWO, state=START, many=1):
        return Plan(bound, tree, levels).shows(lot, state, many)

    def test_by_hand(self):
        self.assertIs(self.shows(2, TREE, LEVELS), True)

    def test_the_dict_in_any_order(self):
        self.assertIs(self.shows(2, TREE, dict(reversed(list(LEVELS.items())))), True)

    def test_another_bound(self):
        for bound in (-1, 0, 1, 3, 10 ** 30, True, False, None, "2", (2,)):
            self.assertIs(self.shows(bound, TREE, LEVELS), False)

    def test_booleans_are_no_bounds(self):
        tree, levels = (("gauge", 1, 7), (None, None)), {SMALL: 1}
        self.assertIs(self.shows(1, tree, levels, state=SMALL), True)
        self.assertIs(self.shows(True, tree, levels, state=SMALL), False)
        self.assertIs(self.shows(0, None, {}, many=2), True)
        self.assertIs(self.shows(False, None, {}, many=2), False)

    def test_a_tree_that_costs_more_than_the_bound(self):
        dear = (("gauge", 2, 9), (TREE, TREE))
        lot = lot_with(gap=(2, 4))
        for bound in (1, 2, 3):
            self.assertIs(self.shows(bound, dear, LEVELS), False)
            self.assertIs(self.shows(bound, dear, LEVELS, lot=lot), False)

    def test_a_dear_tree_with_its_cost(self):
        # No levels can show that no tree costs less.
        branch = (("gauge", 0, 5), (None, (("gauge", 2, 9), (None, None))))
        tree = (("gauge", 1, 7), (branch, branch))
        self.assertEqual(slow_tree_cost(START, tree, *rules(TWO, 1)), 3)
        for bound, levels in [(3, LEVELS), (3, {**LEVELS, START: 3}), (3, {START: 3}), (2, LEVELS)]:
            self.assertIs(self.shows(bound, tree, levels), False)

    def test_changed_trees(self):
        tests = all_tests(TWO, START) + [("gauge", 0, 7), ("measure", 0), ("gauge", 1), ("gauge", 9, 5), ("grind", 0)]
        seen = []
        for tree in changed_trees(TREE, tests):
            right = slow_tree_cost(START, tree, *rules(TWO, 1)) == 2
            self.assertIs(self.shows(2, tree, LEVELS), right)
            seen.append(right)
        self.assertTrue(len(seen) > 40 and True in seen and False in seen)

    def test_changed_trees_with_measures(self):
        lot = Lot(((4, 6),), ((6, 7),), (2, 2), (5, 7), (2, 3))
        found, tests = plan(lot, lot.start(), 1), all_tests(lot, lot.start())
        for tree in changed_trees(found.tree, tests):
            right = slow_tree_cost(lot.start(), tree, *rules(lot, 1)) == found.bound
            self.assertIs(self.shows(found.bound, tree, found.levels, lot=lot, state=lot.start()), right)

    def test_lists_in_the_place_of_tuples(self):
        for tree in nested_lists(TREE):
            self.assertIs(self.shows(2, tree, LEVELS), False)

    def test_booleans_in_tests(self):
        lot = Lot(((0, 1),), ((0, 1),), (0, 0), (1,), (1, 1))
        levels = plan(lot, lot.start(), 1).levels
        first, second = (("gauge", 0, 1), ("gauge", 1, 1))
        tree = (first, ((second, (None, None)), (second, (None, None))))
        self.assertIs(self.shows(2, tree, levels, lot=lot, state=lot.start()), True)
        for one, other in [(("gauge", False, 1), second), (("gauge", 0, True), second), (first, ("gauge", True, 1)),
                           (("measure", False), second), (first, ("measure", True))]:
            tree = (one, ((other, (None, None)), (other, (None, None))))
            self.assertIs(self.shows(2, tree, levels, lot=lot, state=lot.start()), False)

    def test_a_tree_for_a_settled_state(self):
        for tree in (TREE, (("gauge", 0, 5), (None, None)), ()):
            self.assertIs(self.shows(0, tree, {}, many=2), False)
            self.assertIs(self.shows(1, tree, {}, many=2), False)

    def test_no_tree_for_a_state_that_is_not_settled(self):
        for bound in (0, 1, 2):
            self.assertIs(self.shows(bound, None, LEVELS), False)

    def test_changed_levels(self):
        seen = []
        for levels in changed_levels(LEVELS):
            right = slow_levels(levels, START, 2, *rules(TWO, 1))
            self.assertIs(self.shows(2, TREE, levels), right)
            seen.append(right)
        self.assertEqual(len(seen), 16)

    def test_changed_levels_of_many_lots(self):
        seen = []
        for (pins, bores), prices in product(SHAPES[:3], PRICES):
            lot = Lot(pins, bores, (2, 2), (5, 6, 7, 8), prices)
            found = plan(lot, lot.start(), 1)
            for levels in changed_levels(found.levels):
                right = slow_levels(levels, lot.start(), found.bound, *rules(lot, 1))
                self.assertIs(self.shows(found.bound, found.tree, levels, lot=lot, state=lot.start()), right)
                seen.append(right)
        self.assertTrue(True in seen and False in seen)

    def test_a_missing_level(self):
        for state in LEVELS:
            levels = {other: LEVELS[other] for other in LEVELS if other != state}
            self.assertIs(self.shows(2, TREE, levels), False)
        self.assertIs(self.shows(2, TREE, {}), False)

    def test_a_further_level(self):
        great = ((5, 5), (6, 7), (8, 9))
        settled = ((4, 4), (7, 7), (8, 9))
        for level, right in [(-7, True), (0, True), (1, True), (2, False)]:
            self.assertIs(self.shows(2, TREE, {**LEVELS, great: level}), right)
        for level, right in [(-7, True), (0, True), (1, False)]:
            self.assertIs(self.shows(2, TREE, {**LEVELS, settled: level}), right)

    def test_a_level_above_the_bound(self):
        self.assertIs(self.shows(2, TREE, {**LEVELS, START: 3}), False)
        # Where no test is possible, nothing makes a level too high.
        settled = ((4, 4), (7, 7), (8, 9))
        for high, right in [(90, True), (91, True), (92, False)]:
            self.assertIs(self.shows(0, None, {SMALL: 90, START: high}, lot=SHUT, state=settled), right)

    def test_levels_of_states_outside(self):
        # Also the levels of states to which one does not come from here must be right.
        tree, outside = (("gauge", 1, 7), (None, None)), ((5, 5), (6, 7), (8, 9))
        for level, right in [(-1, True), (0, True), (1, True), (2, False)]:
            self.assertIs(self.shows(1, tree, {SMALL: 1, outside: level}, state=SMALL), right)
            self.assertIs(self.shows(0, None, {outside: level}, many=1, state=((4, 4), (7, 7), (8, 9))), right)

    def test_a_settled_state_needs_no_level(self):
        for levels in ({}, {START: 0}, {START: -3}):
            self.assertIs(self.shows(0, None, levels, many=2), True)
        self.assertIs(self.shows(0, None, {START: 1}, many=2), False)

    def test_keys_that_are_no_states_of_the_lot(self):
        for key in [(), ((4, 5), (6, 7)), ((4, 5), (6, 7), (8, 9), (8, 9)), ((4, 5), (6, 7), (8, 10)),
                    ((3, 5), (6, 7), (8, 9)), ((5, 4), (6, 7), (8, 9)), None, 0, True, "state"]:
            for level in (-1, 0, 1):
                self.assertIs(self.shows(2, TREE, {**LEVELS, key: level}), False)

    def test_levels_that_are_no_integers(self):
        for level in (True, False, None, "1", (1,)):
            self.assertIs(self.shows(2, TREE, {**LEVELS, SMALL: level}), False)
            self.assertIs(self.shows(2, TREE, {**LEVELS, ((4, 4), (7, 7), (8, 9)): level}), False)

    def test_booleans_in_keys(self):
        lot = Lot(((0, 1),), ((0, 1),), (0, 0), (1,), (1, None))
        found = plan(lot, lot.start(), 1)
        self.assertIn(((0, 0), (0, 1)), found.levels)
        levels = {state: level for state, level in found.levels.items() if state != ((0, 0), (0, 1))}
        right = {**levels, ((0, 0), (0, 1)): 1}
        wrong = {**levels, ((0, 0), (0, True)): 1}
        self.assertIs(self.shows(found.bound, found.tree, right, lot=lot, state=lot.start()), True)
        self.assertIs(self.shows(found.bound, found.tree, wrong, lot=lot, state=lot.start()), False)

    def test_the_current_attributes_count(self):
        found = plan(TWO, START, 1)
        found.levels.clear()
        self.assertFalse(found.shows(TWO, START, 1))
        found.levels = LEVELS
        self.assertTrue(found.shows(TWO, START, 1))
        found.bound = 3
        self.assertFalse(found.shows(TWO, START, 1))
        found.bound, found.tree = 2, None
        self.assertFalse(found.shows(TWO, START, 1))
        found.tree, found.levels = TREE, list(LEVELS)
        self.assertFalse(found.shows(TWO, START, 1))

    def test_a_state_too_large_to_plan_for(self):
        lot = Lot(((4, 7),) * 3, ((4, 7),) * 3, (9, 9), (5,), (1, None))
        self.assertTrue(Plan(0, None, {}).shows(lot, lot.start(), 1))
        self.assertFalse(Plan(1, None, {}).shows(lot, lot.start(), 1))


class Stucks(unittest.TestCase):

    def test_its_states(self):
        found = plan(SHUT, START, 1)
        self.assertIs(found.__class__, Stuck)
        self.assertIs(found.states.__class__, list)
        self.assertIn(START, found.states)
        for state in found.states:
            self.assertIsNone(slow_verdict(SHUT, state, 1))
            for test in all_tests(SHUT, state):
                self.assertTrue([after for after in results(SHUT, state, test) if after in found.states])

    def test_it_can_be_iterated_over(self):
        found = Stuck([START, SMALL, START])
        self.assertEqual([list(found), list(found), [state for state in found]], [[START, SMALL, START]] * 3)
        self.assertEqual(list(plan(SHUT, START, 1)), plan(SHUT, START, 1).states)
        self.assertEqual(list(Stuck([])), [])

    def shows(self, states, lot=SHUT, state=START, many=1):
        return Stuck(states).shows(lot, state, many)

    def test_by_hand(self):
        self.assertIs(self.shows([START, SMALL]), True)
        self.assertIs(self.shows([SMALL, START]), True)
        self.assertIs(self.shows([SMALL, START, SMALL, START]), True)
        self.assertIs(self.shows([SMALL], state=SMALL), True)

    def test_a_state_is_missing(self):
        self.assertIs(self.shows([START]), False)
        self.assertIs(self.shows([SMALL]), False)
        self.assertIs(self.shows([]), False)

    def test_a_settled_state(self):
        self.assertIs(self.shows([START, SMALL, ((4, 4), (7, 7), (8, 9))]), False)
        self.assertIs(self.shows([START, SMALL, ((4, 4), (6, 6), (8, 9))]), False)
        self.assertIs(self.shows([START, SMALL], many=2), False)

    def test_a_state_that_can_be_settled(self):
        lot = Lot(((4, 7),), ((6, 7), (8, 9)), (3, 3), (5, 9), (1, None))
        able = ((5, 5), (6, 6), (8, 9))
        self.assertEqual(plan_cost(lot, able, 1), 1)
        found = plan(lot, lot.start(), 1).states
        self.assertIs(self.shows(found, lot=lot, state=lot.start()), True)
        self.assertIs(self.shows(found + [able], lot=lot, state=lot.start()), False)
        self.assertIs(self.shows([START], lot=TWO), False)
        self.assertIs(self.shows(all_states(TWO), lot=TWO), False)

    def test_each_test_needs_a_result_in_the_list(self):
        lot = Lot(((4, 5),), ((6, 8),), (2, 2), (5, 8), (1, None))
        low, high = ((4, 4), (6, 8)), ((4, 5), (6, 7))
        self.assertIs(self.shows([lot.start(), low, high, ((4, 4), (6, 7))], lot=lot, state=lot.start()), True)
        self.assertIs(self.shows([lot.start(), low, high], lot=lot, state=lot.start()), False)
        self.assertIs(self.shows([lot.start(), low, ((4, 4), (6, 7))], lot=lot, state=lot.start()), False)
        self.assertIs(self.shows([lot.start(), high, ((4, 4), (6, 7))], lot=lot, state=lot.start()), False)
        self.assertIs(self.shows([low, high, ((4, 4), (6, 7))], lot=lot, state=lot.start()), False)
        self.assertIs(self.shows([lot.start(), ((4, 4), (6, 7))], lot=lot, state=lot.start()), False)

    def test_measures_are_tests_too(self):
        lot = lot_with(gauges=(5,), prices=(1, 3))
        self.assertIs(self.shows([START, SMALL], lot=lot), False)

    def test_states_outside_count_too(self):
        outside = ((5, 5), (6, 7), (8, 9))
        self.assertIs(self.shows([START, SMALL, outside]), True)
        self.assertIs(self.shows([SMALL, outside], state=SMALL), True)
        more = [((4, 5), (6, 7), (8, 8)), ((4, 4), (6, 7), (8, 8))]
        self.assertIs(self.shows([SMALL] + more, state=SMALL), True)
        self.assertIs(self.shows([SMALL, more[0]], state=SMALL), False)
        self.assertIs(self.shows([SMALL, more[1]], state=SMALL), True)

    def test_what_is_no_state_of_the_lot(self):
        for wrong in [(), ((4, 5), (6, 7)), ((4, 5), (6, 7), (8, 9), (8, 9)), ((3, 3), (6, 7), (8, 9)),
                      [(4, 5), (6, 7), (8, 9)], ((4, 5), [6, 7], (8, 9)), None, 0, "state"]:
            self.assertIs(self.shows([START, SMALL, wrong]), False)

    def test_booleans_in_states(self):
        lot = Lot(((0, 1),), ((0, 1),), (0, 0), (), (1, None))
        self.assertIs(self.shows([lot.start()], lot=lot, state=lot.start()), True)
        self.assertIs(self.shows([((0, True), (0, 1))], lot=lot, state=lot.start()), False)
        self.assertIs(self.shows([lot.start(), ((0, 1), (False, 1))], lot=lot, state=lot.start()), False)

    def test_the_current_attributes_count(self):
        found = plan(SHUT, START, 1)
        found.states.clear()
        self.assertFalse(found.shows(SHUT, START, 1))
        found.states = [START, SMALL]
        self.assertTrue(found.shows(SHUT, START, 1))
        self.assertEqual(list(found), [START, SMALL])
        found.states = (START, SMALL)
        self.assertFalse(found.shows(SHUT, START, 1))

    def test_changed_lists_of_many_lots(self):
        for lot in lots():
            if lot.prices == (1, None) and plan_cost(lot, lot.start(), 1) is None:
                found = plan(lot, lot.start(), 1).states
                for at, state in enumerate(found):
                    rest = [other for other in found if other != state]
                    right = lot.start() in rest and all(
                        set(results(lot, other, test)) & set(rest) for other in rest for test in all_tests(lot, other))
                    self.assertIs(self.shows(rest, lot=lot, state=lot.start()), right)


class EqualityAndCopies(unittest.TestCase):

    def test_plans(self):
        found = Plan(2, TREE, LEVELS)
        self.assertIs(found == Plan(2, TREE, dict(reversed(list(LEVELS.items())))), True)
        self.assertIs(found != Plan(2, TREE, LEVELS), False)
        for other in (Plan(1, TREE, LEVELS), Plan(2, None, LEVELS), Plan(2, TREE, {}), Plan(2, TREE[::-1], LEVELS)):
            self.assertIs(found == other, False)
            self.assertIs(found != other, True)
        self.assertTrue(plan(TWO, START, 1) == plan(TWO, START, 1))

    def test_stucks(self):
        found = Stuck([START, SMALL])
        self.assertIs(found == Stuck([START, SMALL]), True)
        self.assertIs(found != Stuck([START, SMALL]), False)
        for other in (Stuck([SMALL, START]), Stuck([START]), Stuck([START, SMALL, SMALL])):
            self.assertIs(found == other, False)
            self.assertIs(found != other, True)
        self.assertTrue(plan(SHUT, START, 1) == plan(SHUT, START, 1))

    def test_objects_of_different_classes(self):
        for one, other in [(Plan(0, None, {}), Stuck([])), (Stuck([]), TWO), (Plan(0, None, {}), TWO)]:
            self.assertEqual([one == other, other == one, one != other, other != one], [False, False, True, True])

    def test_the_dict_and_the_list_are_copied(self):
        levels, states = dict(LEVELS), [START, SMALL]
        one, other = Plan(2, TREE, levels), Stuck(states)
        levels.clear()
        states.clear()
        self.assertEqual([one.levels, other.states], [LEVELS, [START, SMALL]])
        one.levels.clear()
        other.states.clear()
        self.assertEqual([levels, states], [{}, []])
        self.assertTrue(one == Plan(2, TREE, {}) and other == Stuck([]))

    def test_a_changed_answer_does_not_change_a_later_one(self):
        one, other = plan(TWO, START, 1), plan(SHUT, START, 1)
        kept = [dict(one.levels), list(other.states)]
        one.levels.clear()
        other.states.clear()
        self.assertEqual([plan(TWO, START, 1).levels, plan(SHUT, START, 1).states], kept)
        self.assertEqual([plan_cost(TWO, START, 1), plan_cost(SHUT, START, 1)], [2, None])

    def test_attributes_are_set_when_an_object_is_created(self):
        self.assertEqual(vars(Plan(bound=2, tree=None, levels={}))["bound"], 2)
        self.assertEqual(Plan(2, TREE, LEVELS).tree, TREE)
        self.assertEqual(Stuck(states=[START]).states, [START])


class Limits(unittest.TestCase):

    def lot(self, *sizes):
        return Lot(tuple((4, 3 + many) for many in sizes[:3]), tuple((4, 3 + many) for many in sizes[3:]),
                   (9, 9), (), (1, None))

    def test_just_kept(self):
        for sizes in [(4, 4, 1, 3), (1, 4, 3, 4), (3, 1, 4, 1, 4, 1), (4, 3, 2, 2, 1), (2, 2, 2, 1, 2, 2)]:
            lot = self.lot(*sizes)
            self.assertEqual(plan_cost(lot, lot.start(), 1), 0)
            self.assertTrue(plan(lot, lot.start(), 1).shows(lot, lot.start(), 1))

    def test_just_passed(self):
        for sizes in [(3, 3, 3, 2), (2, 3, 3, 3), (1, 3, 3, 1, 3, 2), (4, 4, 4, 1), (4, 4, 2, 2, 1), (2,) * 6,
                      (4,) * 6]:
            lot = self.lot(*sizes)
            for many in (1, 2, 3):
                self.assertRaises(TooLarge, plan, lot, lot.start(), many)
                self.assertRaises(TooLarge, plan_cost, lot, lot.start(), many)

    def test_the_ranges_of_the_state_count(self):
        lot = self.lot(4, 4, 4, 4)
        self.assertRaises(TooLarge, plan_cost, lot, ((4, 7), (4, 7), (4, 7), (4, 5)), 1)
        self.assertEqual(plan_cost(lot, ((4, 7), (5, 5), (4, 6), (4, 7)), 1), 0)
        self.assertEqual(plan_cost(lot, ((4, 5), (5, 6), (4, 6), (5, 7)), 1), 0)

    def test_a_plan_at_the_limit(self):
        lot = Lot(((4, 7), (5, 7)), ((7, 10),), (3, 3), (5, 6, 8, 9), (1, 2))
        found = plan(lot, lot.start(), 1)
        self.assertEqual(found.bound, slow_plan_cost(lot, lot.start(), 1))
        self.assertTrue(found.shows(lot, lot.start(), 1))


class Refusals(unittest.TestCase):

    def calls(self):
        return [plan, plan_cost, Plan(2, TREE, LEVELS).shows, Stuck([START]).shows]

    def test_not_a_lot(self):
        for call, lot in product(self.calls(), STRANGE + [START, Lot]):
            with self.subTest(call=call, lot=lot), self.assertRaises(BadLot) as caught:
                call(lot, None, None)
            self.assertIsNone(caught.exception.part)

    def test_not_a_state(self):
        wrong = [((4, 5), (6, 7)), ((4, 6), (6, 7), (8, 9)), ((5, 4), (6, 7), (8, 9)), [(4, 5), (6, 7), (8, 9)],
                 ((4, 5), [6, 7], (8, 9)), ((4, 5), (6, 7), (8, 9), (8, 9))]
        for call, state in product(self.calls(), wrong + STRANGE):
            with self.subTest(call=call, state=state):
                self.assertRaises(BadState, call, TWO, state, None)

    def test_not_a_number_of_pairs(self):
        for call, many in product(self.calls(), WRONG_MANY):
            with self.subTest(call=call, many=many):
                self.assertRaises(BadMany, call, TWO, START, many)

    def test_the_limit_comes_last(self):
        lot = Lot(((4, 7),) * 3, ((4, 7),) * 3, (9, 9), (), (1, None))
        for call in (plan, plan_cost):
            self.assertRaises(TooLarge, call, lot, lot.start(), 1)
            self.assertRaises(BadMany, call, lot, lot.start(), 0)
            self.assertRaises(BadState, call, lot, START, 0)
        for found in (Plan(1, TREE, {}), Stuck([START])):
            self.assertRaises(BadMany, found.shows, lot, lot.start(), 4)
            self.assertIs(found.shows(lot, lot.start(), 1), False)

    def test_the_arguments_are_checked_before_the_attributes(self):
        for found in (Plan(None, 7, {1: 2}), Stuck([7])):
            self.assertRaises(BadLot, found.shows, None, START, 1)
            self.assertRaises(BadState, found.shows, TWO, None, 1)
            self.assertRaises(BadMany, found.shows, TWO, START, True)


if __name__ == "__main__":
    unittest.main()
