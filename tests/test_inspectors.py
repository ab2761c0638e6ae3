"""Point 9: inspectors, their next tests, and the most that they can cost."""

import unittest
from itertools import product

from surefit.errors import BadInspector, BadLot, BadMany, BadState, TooLarge
from surefit.inspectors import INSPECTORS, Ends, Quits, judge, next_test, worst_cost
from surefit.lots import Lot
from surefit.plans import Plan, Stuck, plan_cost
from tests.samples import (STRANGE, WRONG_MANY, all_sizes, all_states, changed_levels, lot_with, slow_heights,
                           slow_next_test, slow_verdict, slow_walk, slow_worst_cost)

SHAPES = [
    (((4, 7),), ((6, 8),)),
    (((4, 5), (5, 6)), ((7, 8),)),
    (((4, 5),), ((6, 7), (7, 9))),
    (((4, 5), (5, 5), (6, 6)), ((7, 8), (6, 7), (8, 8))),
]
GAPS = [(2, 2), (1, 2)]
GAUGES = [(), (6,), (5, 7), (5, 6, 7, 8)]
PRICES = [(1, None), (1, 1), (2, 1), (1, 3), (4, 9)]

TWO = lot_with()
SHUT = lot_with(gauges=(5,))
START = TWO.start()
SMALL = ((4, 4), (6, 7), (8, 9))
GREAT = ((5, 5), (6, 7), (8, 9))

WRONG_WORDS = ["", "First", "first ", "firs", "cheapest", b"first", 0, None, True, ("first",), ["first"], {}, INSPECTORS]


def lots():
    for (pins, bores), gap, gauges, prices in product(SHAPES, GAPS, GAUGES, PRICES):
        yield Lot(pins, bores, gap, gauges, prices)


def told(lot, state=None, many=1):
    """What the four inspectors do in a state, by default at the start."""
    return [next_test(lot, state or lot.start(), many, inspector) for inspector in INSPECTORS]


def heights_of(lot, state, many, inspector):
    return judge(lot, state, many, inspector).heights


class NextTests(unittest.TestCase):

    def test_the_words(self):
        self.assertEqual(INSPECTORS, ("first", "cheap", "even", "wide"))
        self.assertIs(INSPECTORS.__class__, tuple)

    def test_the_example(self):
        found = [next_test(TWO, state, 1, "first") for state in (START, SMALL, GREAT)]
        self.assertEqual(found, [("gauge", 0, 5), ("gauge", 1, 7), ("gauge", 1, 7)])

    def test_without_measures(self):
        lot = Lot(((4, 5),), ((6, 9), (8, 9)), (3, 3), (5, 7, 8, 9), (2, None))
        self.assertEqual(told(lot), [("gauge", 0, 5), ("gauge", 0, 5), ("gauge", 0, 5), ("gauge", 1, 7)])
        state = ((4, 4), (6, 9), (8, 8))
        self.assertEqual(told(lot, state), [("gauge", 1, 7), ("gauge", 1, 7), ("gauge", 1, 8), ("gauge", 1, 7)])

    def test_with_measures(self):
        cheap = {(2, 1): ("measure", 0), (2, 2): ("gauge", 0, 5), (2, 3): ("gauge", 0, 5), (9, 1): ("measure", 0)}
        for prices, test in cheap.items():
            lot = Lot(((4, 5),), ((6, 9), (8, 9)), (3, 3), (5, 7, 8, 9), prices)
            self.assertEqual(told(lot), [("gauge", 0, 5), test, ("gauge", 0, 5), ("measure", 1)])

    def test_first_takes_the_first_one(self):
        lot = Lot(((4, 7),), ((9, 12),), (3, 3), (6, 10, 11), (3, 1))
        self.assertEqual(next_test(lot, lot.start(), 1, "first"), ("gauge", 0, 6))
        self.assertEqual(next_test(lot, ((6, 7), (9, 12)), 1, "first"), ("gauge", 1, 10))
        self.assertEqual(next_test(lot, ((7, 7), (9, 12)), 1, "first"), ("gauge", 1, 10))
        self.assertEqual(next_test(lot, ((6, 7), (9, 9)), 1, "first"), ("measure", 0))

    def test_cheap_of_several_with_the_least_price(self):
        lot = Lot(((4, 7),), ((9, 12),), (3, 3), (6, 10, 11), (3, 1))
        self.assertEqual(next_test(lot, lot.start(), 1, "cheap"), ("measure", 0))
        self.assertEqual(next_test(lot, ((7, 7), (9, 12)), 1, "cheap"), ("measure", 1))
        lot = Lot(((4, 7),), ((9, 12),), (3, 3), (6, 10, 11), (1, 1))
        self.assertEqual(next_test(lot, ((7, 7), (9, 12)), 1, "cheap"), ("gauge", 1, 10))
        lot = Lot(((4, 7),), ((9, 12),), (3, 3), (), (1, 9))
        self.assertEqual(next_test(lot, lot.start(), 1, "cheap"), ("measure", 0))

    def test_even_takes_the_fewest_sizes_in_the_greatest_result(self):
        for gauges, size in [((5,), 5), ((5, 6), 6), ((6, 7), 6), ((5, 7), 5), ((5, 6, 7), 6)]:
            lot = Lot(((4, 7),), ((9, 9),), (3, 3), gauges, (1, None))
            self.assertEqual(next_test(lot, lot.start(), 1, "even"), ("gauge", 0, size))
        for gauges, test in [((6,), ("measure", 0)), ((11,), ("measure", 0)), ((), ("measure", 0))]:
            lot = Lot(((4, 7),), ((9, 12),), (3, 3), gauges, (1, 9))
            self.assertEqual(next_test(lot, lot.start(), 1, "even"), test)

    def test_even_counts_the_sizes_of_the_part_that_is_tested(self):
        # The bore is divided into ranges of two and one sizes, the pin into ranges of two and two.
        lot = Lot(((4, 7),), ((8, 10),), (3, 3), (5, 10), (1, None))
        self.assertEqual(next_test(lot, lot.start(), 1, "even"), ("gauge", 1, 10))
        lot = Lot(((4, 7),), ((8, 10),), (3, 3), (6, 10), (1, None))
        self.assertEqual(next_test(lot, lot.start(), 1, "even"), ("gauge", 0, 6))
        lot = Lot(((4, 7),), ((8, 9),), (3, 3), (6, 9), (1, 1))
        self.assertEqual(next_test(lot, lot.start(), 1, "even"), ("gauge", 1, 9))

    def test_wide_takes_the_first_part_with_the_most_sizes(self):
        cases = [(((4, 6),), ((8, 10),), 0), (((4, 6),), ((8, 11),), 1), (((4, 4),), ((8, 9), (8, 9)), 1),
                 (((4, 5),), ((8, 9), (8, 10)), 2)]
        for pins, bores, part in cases:
            lot = Lot(pins, bores, (4, 4), (5, 6, 9, 10), (1, 9))
            self.assertEqual(next_test(lot, lot.start(), 1, "wide"), ("measure", part))
            lot = Lot(pins, bores, (4, 4), (5, 6, 9, 10), (1, None))
            self.assertEqual(next_test(lot, lot.start(), 1, "wide"), ("gauge", part, 9 if part else 5))

    def test_wide_asks_for_parts_that_can_be_tested(self):
        lot = Lot(((4, 5),), ((8, 11),), (4, 5), (5,), (1, None))
        self.assertEqual(next_test(lot, lot.start(), 1, "wide"), ("gauge", 0, 5))
        lot = Lot(((4, 5),), ((8, 11),), (4, 5), (5,), (1, 1))
        self.assertEqual(next_test(lot, lot.start(), 1, "wide"), ("measure", 1))
        lot = Lot(((4, 5),), ((8, 11), (7, 9)), (4, 5), (5, 8), (1, None))
        self.assertEqual(next_test(lot, lot.start(), 1, "wide"), ("gauge", 2, 8))

    def test_none_where_the_state_is_settled(self):
        for lot in (TWO, lot_with(prices=(1, 1))):
            self.assertEqual(told(lot, many=2), [None] * 4)
            self.assertEqual(told(lot, ((4, 4), (7, 7), (8, 9))), [None] * 4)
            self.assertEqual(told(lot, ((4, 4), (6, 6), (8, 9))), [None] * 4)

    def test_none_where_no_test_is_possible(self):
        self.assertEqual(told(SHUT, SMALL), [None] * 4)
        self.assertEqual(told(lot_with(gauges=())), [None] * 4)

    def test_all_states_of_some_lots(self):
        for prices, gauges in product([(1, None), (2, 1), (2, 2), (1, 2)], [(), (5, 8), (5, 6, 7, 9)]):
            lot = Lot(((4, 7),), ((6, 8), (8, 9)), (2, 3), gauges, prices)
            for state, inspector in product(all_states(lot), INSPECTORS):
                self.assertEqual(next_test(lot, state, 1, inspector), slow_next_test(lot, state, 1, inspector))

    def test_there_is_no_limit(self):
        lot = Lot(((4, 7),) * 3, ((4, 7),) * 3, (0, 0), (5, 6), (1, None))
        self.assertEqual(told(lot), [("gauge", 0, 5), ("gauge", 0, 5), ("gauge", 0, 6), ("gauge", 0, 5)])


class Costs(unittest.TestCase):

    def test_the_example(self):
        self.assertEqual([worst_cost(TWO, START, 1, inspector) for inspector in INSPECTORS], [3] * 4)
        self.assertEqual([worst_cost(SHUT, START, 1, inspector) for inspector in INSPECTORS], [None] * 4)

    def test_many_lots(self):
        found = []
        for lot, many, inspector in product(lots(), (1, 2), INSPECTORS):
            cost = worst_cost(lot, lot.start(), many, inspector)
            self.assertEqual(cost, slow_worst_cost(lot, lot.start(), many, inspector))
            found.append(cost)
        self.assertTrue({None, 0, 2, 3, 4, 9, 18, 27} < set(found))

    def test_all_states_of_a_lot(self):
        lot = Lot(((4, 6),), ((6, 7), (8, 9)), (2, 3), (5, 7), (2, 3))
        for state, inspector in product(all_states(lot), INSPECTORS):
            self.assertEqual(worst_cost(lot, state, 1, inspector), slow_worst_cost(lot, state, 1, inspector))

    def test_each_inspector_can_be_the_worst(self):
        lot = Lot(((4, 7),), ((7, 7),), (2, 2), (5, 6, 7), (1, None))
        self.assertEqual([worst_cost(lot, lot.start(), 1, inspector) for inspector in INSPECTORS], [2, 2, 2, 2])
        lot = Lot(((4, 7),), ((7, 7),), (0, 1), (5, 6, 7), (1, None))
        self.assertEqual([worst_cost(lot, lot.start(), 1, inspector) for inspector in INSPECTORS], [2, 2, 1, 2])
        lot = Lot(((4, 7),), ((7, 7),), (2, 2), (5, 6, 7), (1, 9))
        self.assertEqual([worst_cost(lot, lot.start(), 1, inspector) for inspector in INSPECTORS], [2, 2, 9, 9])

    def test_no_inspector_costs_less_than_a_plan(self):
        for lot, inspector in product(lots(), INSPECTORS):
            cost, least = worst_cost(lot, lot.start(), 1, inspector), plan_cost(lot, lot.start(), 1)
            # All tests that an inspector makes are in a tree, so it quits where there is none.
            self.assertTrue(cost is None or (least is not None and cost >= least))

    def test_what_a_settled_state_costs(self):
        for inspector in INSPECTORS:
            self.assertEqual(worst_cost(TWO, START, 2, inspector), 0)
            self.assertEqual(worst_cost(lot_with(gauges=()), ((4, 4), (7, 7), (8, 9)), 1, inspector), 0)

    def test_a_way_on_which_it_quits_is_enough(self):
        # With a pin of size 4 it is known at once that nothing fits.
        lot = Lot(((4, 5),), ((6, 8),), (1, 1), (5,), (1, None))
        for inspector in INSPECTORS:
            self.assertIsNone(worst_cost(lot, lot.start(), 1, inspector))
            self.assertEqual(worst_cost(lot, ((4, 4), (6, 8)), 1, inspector), 0)


class Judging(unittest.TestCase):

    def test_many_lots(self):
        classes = {}
        for lot, many, inspector in product(lots(), (1, 2), INSPECTORS):
            state = lot.start()
            found, cost = judge(lot, state, many, inspector), worst_cost(lot, state, many, inspector)
            self.assertIs(found.__class__, Quits if cost is None else Ends)
            self.assertIs(found.shows(lot, state, many, inspector), True)
            self.assertIn(found.sizes, all_sizes(state))
            paid, end = slow_walk(lot, state, many, inspector, found.sizes)
            if cost is None:
                self.assertIsNone(slow_verdict(lot, end, many))
            else:
                self.assertEqual([found.total, paid], [cost, cost])
                self.assertTrue(slow_heights(found.heights, lot, state, many, inspector, cost))
            classes[found.__class__] = classes.get(found.__class__, 0) + 1
        self.assertTrue(min(classes[Ends], classes[Quits]) > 50)

    def test_all_states_of_a_lot(self):
        for lot, inspector in product([lot_with(prices=(2, 3)), SHUT], INSPECTORS):
            for state in all_states(lot):
                self.assertIs(judge(lot, state, 1, inspector).shows(lot, state, 1, inspector), True)

    def test_kinds_of_values(self):
        found = judge(TWO, START, 1, "first")
        self.assertEqual([value.__class__ for value in (found.total, found.sizes, found.heights)], [int, tuple, dict])
        self.assertEqual([size.__class__ for size in found.sizes], [int] * 3)
        for state, height in found.heights.items():
            self.assertIn(state, all_states(TWO))
            self.assertTrue(height.__class__ is int and height >= 0)
        self.assertIs(judge(SHUT, START, 1, "first").sizes.__class__, tuple)

    def test_a_settled_state(self):
        for inspector in INSPECTORS:
            found = judge(TWO, START, 2, inspector)
            self.assertEqual([found.__class__, found.total], [Ends, 0])
            self.assertTrue(found.shows(TWO, START, 2, inspector))

    def test_a_state_without_any_test(self):
        for inspector in INSPECTORS:
            found = judge(SHUT, SMALL, 1, inspector)
            self.assertIs(found.__class__, Quits)
            self.assertEqual(found.sizes[0], 4)

    def test_for_something_else_it_shows_nothing(self):
        found = judge(TWO, START, 1, "first")
        for lot, state, many in [(TWO, SMALL, 1), (TWO, START, 2), (SHUT, START, 1),
                                 (lot_with(prices=(2, None)), START, 1)]:
            self.assertIs(found.shows(lot, state, many, "first"), False)
        lot = Lot(((4, 7),), ((7, 7),), (0, 1), (5, 6, 7), (1, None))
        found = judge(lot, lot.start(), 1, "even")
        self.assertEqual([found.shows(lot, lot.start(), 1, inspector) for inspector in INSPECTORS],
                         [False, False, True, False])


# With these heights it is shown that "first" pays at most 3 from the start of the document's lot on.
ENDS = {
    START: 3, SMALL: 2, GREAT: 2,
    ((4, 4), (6, 6), (8, 9)): 0, ((4, 4), (7, 7), (8, 9)): 0,
    ((5, 5), (6, 6), (8, 9)): 1, ((5, 5), (7, 7), (8, 9)): 1,
    ((5, 5), (6, 6), (8, 8)): 0, ((5, 5), (6, 6), (9, 9)): 0, ((5, 5), (7, 7), (8, 8)): 0, ((5, 5), (7, 7), (9, 9)): 0,
}


class ShowsOfEnds(unittest.TestCase):

    def shows(self, total, sizes, heights, lot=TWO, state=START, many=1, inspector="first"):
        return Ends(total, sizes, heights).shows(lot, state, many, inspector)

    def test_by_hand(self):
        for sizes in [(5, 6, 8), (5, 6, 9), (5, 7, 8), (5, 7, 9)]:
            self.assertIs(self.shows(3, sizes, ENDS), True)
        self.assertIs(self.shows(3, (5, 6, 8), {**ENDS, SMALL: 1}), True)

    def test_the_dict_in_any_order(self):
        self.assertIs(self.shows(3, (5, 6, 8), dict(reversed(list(ENDS.items())))), True)

    def test_another_total(self):
        for total in (-1, 0, 1, 2, 4, 10 ** 30, True, False, None, "3", (3,)):
            self.assertIs(self.shows(total, (5, 6, 8), ENDS), False)
            self.assertIs(self.shows(total, (5, 6, 8), {**ENDS, START: 0}), False)
        for total in (3, 4):
            self.assertIs(self.shows(total, (5, 6, 8), {**ENDS, START: 4}), False)

    def test_sizes_that_cost_less(self):
        for sizes in [(4, 6, 8), (4, 7, 8), (4, 7, 9)]:
            for total in (2, 3):
                self.assertIs(self.shows(total, sizes, ENDS), False)
                self.assertIs(self.shows(total, sizes, {**ENDS, START: 2}), False)

    def test_sizes_beyond_their_ranges(self):
        for sizes in [(3, 6, 8), (6, 6, 8), (5, 5, 8), (5, 8, 8), (5, 6, 7), (5, 6, 10), (-1, 6, 8), (5, 6, 10 ** 30)]:
            self.assertIs(self.shows(3, sizes, ENDS), False)

    def test_the_ranges_of_the_state_count(self):
        heights = {state: height for state, height in ENDS.items() if state[0] == (5, 5)}
        self.assertIs(self.shows(2, (5, 6, 8), heights, state=GREAT), True)
        self.assertIs(self.shows(2, (4, 6, 8), heights, state=GREAT), False)
        self.assertIs(self.shows(2, (5, 6, 8), ENDS, state=SMALL), False)
        self.assertIs(self.shows(1, (4, 6, 8), {**ENDS, SMALL: 1}, state=SMALL), True)

    def test_sizes_of_another_length(self):
        for sizes in [(), (5,), (5, 6), (5, 6, 8, 8), (5, 6, 8, 0)]:
            self.assertIs(self.shows(3, sizes, ENDS), False)

    def test_sizes_that_are_no_tuple_of_integers(self):
        for sizes in [[5, 6, 8], (5, 6, None), ("5", 6, 8), None, 5, ((5,), 6, 8), {5: 6}]:
            self.assertIs(self.shows(3, sizes, ENDS), False)

    def test_a_height_that_is_too_small(self):
        for state in ENDS:
            # The height of one of these states is greater than it has to be.
            least = 1 if state == SMALL else ENDS[state]
            for height in range(-2, 6):
                heights = {**ENDS, state: height}
                right = slow_heights(heights, TWO, START, 1, "first", 3)
                self.assertIs(self.shows(3, (5, 6, 8), heights), right)
                self.assertTrue(height >= least or not right)

    def test_a_height_below_zero(self):
        settled, outside = ((4, 4), (6, 6), (8, 9)), ((4, 4), (6, 6), (8, 8))
        for state, height in product((settled, outside), (-1, -9)):
            self.assertIs(self.shows(3, (5, 6, 8), {**ENDS, state: height}), False)
        self.assertIs(self.shows(0, (4, 6, 8), {START: 0}, many=2), True)
        self.assertIs(self.shows(0, (4, 6, 8), {START: -1}, many=2), False)

    def test_a_missing_height(self):
        for state in ENDS:
            heights = {other: ENDS[other] for other in ENDS if other != state}
            self.assertIs(self.shows(3, (5, 6, 8), heights), False)
        self.assertIs(self.shows(3, (5, 6, 8), {}), False)
        self.assertIs(self.shows(3, (5, 6, 8), {START: 3}), False)

    def test_the_state_is_missing(self):
        self.assertIs(self.shows(0, (4, 6, 8), {}, many=2), False)
        self.assertIs(self.shows(0, (4, 6, 8), {SMALL: 0}, many=2), False)
        self.assertIs(self.shows(0, (4, 6, 8), {SMALL: 0, START: 0}, many=2), True)

    def test_a_height_above_the_total(self):
        self.assertIs(self.shows(0, (4, 6, 8), {START: 1}, many=2), False)
        self.assertIs(self.shows(0, (4, 6, 8), {START: 0, SMALL: 7}, many=2), True)
        self.assertIs(self.shows(3, (5, 6, 8), {**ENDS, START: 4}), False)

    def test_heights_of_states_that_are_not_asked_for(self):
        settled, unsettled = ((4, 4), (6, 6), (8, 8)), ((4, 5), (7, 7), (8, 9))
        for height in (0, 1, 7):
            self.assertIs(self.shows(3, (5, 6, 8), {**ENDS, settled: height}), True)
        # The results of the test in this one are in the dict, with heights of 0 and 1.
        for height in (0, 1, 2, 7):
            self.assertIs(self.shows(3, (5, 6, 8), {**ENDS, unsettled: height}), height > 1)
        # Those of the test in this one are not.
        other, low, high = [(span, (6, 6), (8, 8)) for span in ((4, 5), (4, 4), (5, 5))]
        for height in (0, 1, 2, 7):
            self.assertIs(self.shows(3, (5, 6, 8), {**ENDS, other: height}), False)
            self.assertIs(self.shows(3, (5, 6, 8), {**ENDS, other: height, low: 0}), height > 0)
            self.assertIs(self.shows(3, (5, 6, 8), {**ENDS, other: height, low: 6, high: 0}), height > 6)

    def test_a_state_without_a_test_is_in_no_heights(self):
        settled = ((4, 4), (6, 6), (8, 9))
        self.assertIs(self.shows(0, (4, 6, 8), {settled: 0}, lot=SHUT, state=settled), True)
        self.assertIs(self.shows(0, (4, 6, 8), {settled: 0, SMALL: 9}, lot=SHUT, state=settled), False)
        self.assertIs(self.shows(0, (4, 6, 8), {SMALL: 0}, lot=SHUT, state=SMALL), False)
        self.assertIs(self.shows(1, (4, 6, 8), {START: 1, SMALL: 0, GREAT: 0}, lot=SHUT), False)

    def test_changed_heights_of_many_lots(self):
        seen = []
        for lot, inspector in product(list(lots())[:60], INSPECTORS):
            found = judge(lot, lot.start(), 1, inspector)
            for heights in changed_levels(found.heights) if isinstance(found, Ends) else []:
                right = slow_heights(heights, lot, lot.start(), 1, inspector, found.total)
                self.assertIs(self.shows(found.total, found.sizes, heights, lot, lot.start(), 1, inspector), right)
                seen.append(right)
        self.assertTrue(True in seen and False in seen)

    def test_all_sizes_of_many_lots(self):
        seen = []
        for lot, inspector in product(list(lots())[:60], INSPECTORS):
            found = judge(lot, lot.start(), 1, inspector)
            for sizes in all_sizes(lot.start()) if isinstance(found, Ends) else []:
                right = slow_walk(lot, lot.start(), 1, inspector, sizes)[0] == found.total
                self.assertIs(self.shows(found.total, sizes, found.heights, lot, lot.start(), 1, inspector), right)
                seen.append(right)
        self.assertTrue(True in seen and False in seen)

    def test_keys_that_are_no_states_of_the_lot(self):
        for key in [(), ((4, 5), (6, 7)), ((4, 5), (6, 7), (8, 9), (8, 9)), ((4, 5), (6, 7), (8, 10)),
                    ((3, 5), (6, 7), (8, 9)), ((5, 4), (6, 7), (8, 9)), None, 0, True, "state"]:
            self.assertIs(self.shows(3, (5, 6, 8), {**ENDS, key: 0}), False)

    def test_booleans(self):
        lot = Lot(((0, 1),), ((0, 0),), (0, 0), (1,), (1, None))
        start, low, high = lot.start(), ((0, 0), (0, 0)), ((1, 1), (0, 0))
        heights = {start: 1, low: 0, high: 0}
        self.assertIs(self.shows(1, (0, 0), heights, lot=lot, state=start), True)
        self.assertIs(self.shows(True, (0, 0), heights, lot=lot, state=start), False)
        for sizes in [(False, 0), (True, 0), (0, False)]:
            self.assertIs(self.shows(1, sizes, heights, lot=lot, state=start), False)
        for state, height in [(start, True), (low, False), (high, False)]:
            self.assertIs(self.shows(1, (0, 0), {**heights, state: height}, lot=lot, state=start), False)
        for key in [((0, True), (0, 0)), ((False, 1), (0, 0))]:
            wrong = {low: 0, high: 0, key: 1}
            self.assertIs(self.shows(1, (0, 0), wrong, lot=lot, state=start), False)
        self.assertIs(self.shows(0, (0, 0), {low: 0}, lot=lot, state=low), True)
        self.assertIs(self.shows(False, (0, 0), {low: 0}, lot=lot, state=low), False)

    def test_heights_that_are_no_integers(self):
        for height in (None, "0", (0,), [0]):
            self.assertIs(self.shows(3, (5, 6, 8), {**ENDS, ((4, 4), (6, 6), (8, 9)): height}), False)

    def test_the_current_attributes_count(self):
        found = judge(TWO, START, 1, "first")
        found.heights.clear()
        self.assertFalse(found.shows(TWO, START, 1, "first"))
        found.heights = ENDS
        self.assertTrue(found.shows(TWO, START, 1, "first"))
        found.sizes = (4, 6, 8)
        self.assertFalse(found.shows(TWO, START, 1, "first"))
        found.sizes, found.total = (5, 6, 8), 4
        self.assertFalse(found.shows(TWO, START, 1, "first"))
        found.total, found.heights = 3, list(ENDS)
        self.assertFalse(found.shows(TWO, START, 1, "first"))

    def test_a_state_too_large_to_judge(self):
        lot = Lot(((4, 7),) * 3, ((4, 7),) * 3, (9, 9), (5,), (1, None))
        self.assertTrue(self.shows(0, (4,) * 6, {lot.start(): 0}, lot=lot, state=lot.start()))
        self.assertFalse(self.shows(1, (4,) * 6, {lot.start(): 1}, lot=lot, state=lot.start()))


class ShowsOfQuits(unittest.TestCase):

    def shows(self, sizes, lot=SHUT, state=START, many=1, inspector="first"):
        return Quits(sizes).shows(lot, state, many, inspector)

    def test_by_hand(self):
        self.assertIs(self.shows((4, 6, 8)), True)
        self.assertIs(self.shows((5, 7, 9)), True)
        self.assertIs(self.shows((4, 6, 8), lot=TWO), False)
        self.assertIs(self.shows((4, 6, 8), state=SMALL), True)

    def test_sizes_with_which_it_does_not_quit(self):
        lot = Lot(((4, 5),), ((6, 8),), (1, 1), (5,), (1, None))
        for inspector in INSPECTORS:
            for sizes in all_sizes(lot.start()):
                self.assertIs(self.shows(sizes, lot=lot, state=lot.start(), inspector=inspector), sizes[0] == 5)

    def test_a_settled_state(self):
        for sizes in all_sizes(START):
            self.assertIs(self.shows(sizes, many=2), False)

    def test_all_sizes_of_many_lots(self):
        seen = []
        for lot, inspector in product(lots(), INSPECTORS):
            for sizes in all_sizes(lot.start())[::3]:
                end = slow_walk(lot, lot.start(), 1, inspector, sizes)[1]
                right = slow_verdict(lot, end, 1) is None
                self.assertIs(self.shows(sizes, lot, lot.start(), 1, inspector), right)
                seen.append(right)
        self.assertTrue(True in seen and False in seen)

    def test_sizes_beyond_their_ranges(self):
        for sizes in [(3, 6, 8), (6, 6, 8), (4, 5, 8), (4, 8, 8), (4, 6, 7), (4, 6, 10), (-4, 6, 8)]:
            self.assertIs(self.shows(sizes), False)
        self.assertIs(self.shows((5, 6, 8), state=SMALL), False)

    def test_sizes_of_another_length_or_kind(self):
        for sizes in [(), (4,), (4, 6), (4, 6, 8, 8), [4, 6, 8], None, 4, (4, 6, None), ("4", 6, 8)]:
            self.assertIs(self.shows(sizes), False)

    def test_booleans(self):
        lot = Lot(((0, 1),), ((0, 0),), (0, 0), (), (1, None))
        self.assertIs(self.shows((1, 0), lot=lot, state=lot.start()), True)
        for sizes in [(True, 0), (False, 0), (1, False)]:
            self.assertIs(self.shows(sizes, lot=lot, state=lot.start()), False)

    def test_the_current_attribute_counts(self):
        found = judge(SHUT, START, 1, "first")
        found.sizes = (4, 6)
        self.assertFalse(found.shows(SHUT, START, 1, "first"))
        found.sizes = (4, 7, 8)
        self.assertTrue(found.shows(SHUT, START, 1, "first"))


class EqualityAndCopies(unittest.TestCase):

    def test_ends(self):
        found = Ends(3, (5, 6, 8), ENDS)
        self.assertIs(found == Ends(3, (5, 6, 8), dict(reversed(list(ENDS.items())))), True)
        self.assertIs(found != Ends(3, (5, 6, 8), ENDS), False)
        for other in (Ends(2, (5, 6, 8), ENDS), Ends(3, (5, 6, 9), ENDS), Ends(3, (5, 6, 8), {})):
            self.assertIs(found == other, False)
            self.assertIs(found != other, True)
        self.assertTrue(judge(TWO, START, 1, "even") == judge(TWO, START, 1, "even"))

    def test_quits(self):
        self.assertIs(Quits((4, 6, 8)) == Quits((4, 6, 8)), True)
        self.assertIs(Quits((4, 6, 8)) != Quits((4, 6, 8)), False)
        self.assertIs(Quits((4, 6, 8)) == Quits((4, 6, 9)), False)
        self.assertIs(Quits((4, 6, 8)) != Quits((4, 6, 9)), True)

    def test_objects_of_different_classes(self):
        objects = [Ends(0, (), {}), Quits(()), Plan(0, (), {}), Stuck([]), TWO]
        for one, other in product(objects, objects):
            if one is not other:
                self.assertEqual([one == other, one != other], [False, True])

    def test_the_dict_is_copied(self):
        heights = dict(ENDS)
        found = Ends(3, (5, 6, 8), heights)
        heights.clear()
        self.assertEqual(found.heights, ENDS)
        found.heights.clear()
        self.assertEqual(len(ENDS), 11)
        self.assertEqual(heights, {})

    def test_a_changed_answer_does_not_change_a_later_one(self):
        kept = heights_of(TWO, START, 1, "wide")
        heights_of(TWO, START, 1, "wide").clear()
        self.assertEqual(heights_of(TWO, START, 1, "wide"), kept)
        self.assertTrue(kept)

    def test_attributes_are_set_when_an_object_is_created(self):
        found = Ends(total=1, sizes=(4,), heights={})
        self.assertEqual([found.total, found.sizes, found.heights, Quits(sizes=(5,)).sizes], [1, (4,), {}, (5,)])


class Limits(unittest.TestCase):

    def lot(self, *sizes):
        ranges = tuple((4, 3 + many) for many in sizes)
        return Lot(ranges[:len(sizes) // 2], ranges[len(sizes) // 2:], (9, 9), (5,), (1, None))

    def test_just_kept(self):
        for sizes in [(4, 4, 1, 3), (1, 4, 3, 4), (4, 3, 2, 2, 1), (2, 2, 2, 1, 2, 2)]:
            lot = self.lot(*sizes)
            for inspector in INSPECTORS:
                self.assertEqual(worst_cost(lot, lot.start(), 1, inspector), 0)
                self.assertTrue(judge(lot, lot.start(), 1, inspector).shows(lot, lot.start(), 1, inspector))

    def test_just_passed(self):
        for sizes in [(3, 3, 3, 2), (2, 3, 3, 3), (4, 4, 4), (2,) * 6, (4,) * 6]:
            lot = self.lot(*sizes)
            for inspector, call in product(INSPECTORS, (judge, worst_cost)):
                self.assertRaises(TooLarge, call, lot, lot.start(), 1, inspector)
            self.assertIsNone(next_test(lot, lot.start(), 1, "first"))

    def test_the_ranges_of_the_state_count(self):
        lot = self.lot(4, 4, 4, 4)
        self.assertRaises(TooLarge, worst_cost, lot, ((4, 7), (4, 7), (4, 7), (5, 5)), 1, "first")
        self.assertEqual(worst_cost(lot, ((4, 7), (5, 5), (4, 6), (4, 7)), 1, "first"), 0)

    def test_at_the_limit(self):
        lot = Lot(((4, 7), (5, 7)), ((7, 10),), (3, 3), (5, 6, 8, 9), (1, 2))
        for inspector in INSPECTORS:
            found = judge(lot, lot.start(), 1, inspector)
            self.assertEqual(found.total, slow_worst_cost(lot, lot.start(), 1, inspector))
            self.assertTrue(found.shows(lot, lot.start(), 1, inspector))


class Refusals(unittest.TestCase):

    def calls(self):
        return [next_test, judge, worst_cost, Ends(3, (5, 6, 8), ENDS).shows, Quits((4, 6, 8)).shows]

    def test_not_a_lot(self):
        for call, lot in product(self.calls(), STRANGE + [START, Lot]):
            with self.subTest(call=call, lot=lot), self.assertRaises(BadLot) as caught:
                call(lot, None, None, None)
            self.assertIsNone(caught.exception.part)

    def test_not_a_state(self):
        wrong = [((4, 5), (6, 7)), ((4, 6), (6, 7), (8, 9)), ((5, 4), (6, 7), (8, 9)), [(4, 5), (6, 7), (8, 9)]]
        for call, state in product(self.calls(), wrong + STRANGE):
            with self.subTest(call=call, state=state):
                self.assertRaises(BadState, call, TWO, state, None, None)

    def test_not_a_number_of_pairs(self):
        for call, many in product(self.calls(), WRONG_MANY):
            with self.subTest(call=call, many=many):
                self.assertRaises(BadMany, call, TWO, START, many, None)

    def test_not_an_inspector(self):
        for call, word in product(self.calls(), WRONG_WORDS + STRANGE):
            with self.subTest(call=call, word=word):
                self.assertRaises(BadInspector, call, TWO, START, 1, word)
                self.assertRaises(BadInspector, call, TWO, START, 2, word)

    def test_the_limit_comes_last(self):
        lot = Lot(((4, 7),) * 3, ((4, 7),) * 3, (9, 9), (), (1, None))
        for call in (judge, worst_cost):
            self.assertRaises(TooLarge, call, lot, lot.start(), 1, "wide")
            self.assertRaises(BadInspector, call, lot, lot.start(), 1, "Wide")
            self.assertRaises(BadMany, call, lot, lot.start(), 0, "Wide")
            self.assertRaises(BadState, call, lot, START, 0, "Wide")
        for found in (Ends(1, (4,) * 6, {}), Quits((4,) * 6)):
            self.assertRaises(BadInspector, found.shows, lot, lot.start(), 1, "Wide")
            self.assertIs(found.shows(lot, lot.start(), 1, "wide"), False)

    def test_the_arguments_are_checked_before_the_attributes(self):
        for found in (Ends(None, 7, {1: 2}), Quits(7)):
            self.assertRaises(BadLot, found.shows, None, START, 1, "first")
            self.assertRaises(BadState, found.shows, TWO, None, 1, "first")
            self.assertRaises(BadMany, found.shows, TWO, START, True, "first")
            self.assertRaises(BadInspector, found.shows, TWO, START, 1, None)


if __name__ == "__main__":
    unittest.main()
