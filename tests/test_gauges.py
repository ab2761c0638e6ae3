"""Point 7: a further gauge."""

import unittest
from itertools import product

from surefit.errors import BadLot, BadMany, BadState, FullLot, TooLarge
from surefit.gauges import Gauges, best_gauge, gauge_costs, more_gauges
from surefit.lots import Lot
from surefit.plans import Plan, Stuck, plan, plan_cost
from tests.samples import STRANGE, WRONG_MANY, all_states, lot_with, slow_plan_cost

SHAPES = [
    (((4, 7),), ((6, 8),)),
    (((4, 5), (5, 6)), ((7, 8),)),
    (((4, 5),), ((6, 7), (7, 9))),
    (((4, 5), (4, 4), (6, 7)), ((6, 7), (6, 6), (8, 8))),
]
GAPS = [(2, 2), (1, 2)]
GAUGES = [(), (6,), (5, 7), (5, 7, 9)]
PRICES = [(1, None), (2, 1), (4, 9)]

SHUT = lot_with(gauges=(5,))
START = SHUT.start()
FULL = lot_with(gauges=(5, 7, 9, 11))


def lots():
    for (pins, bores), gap, gauges, prices in product(SHAPES, GAPS, GAUGES, PRICES):
        yield Lot(pins, bores, gap, gauges, prices)


def slow_costs(lot, state, many):
    """What it costs with each further gauge, from all sizes that a gauge can have."""
    found = {}
    for size in range(1, 31):
        if size not in lot.gauges and any(first < size <= last for first, last in state):
            more = Lot(lot.pins, lot.bores, lot.gap, tuple(sorted(lot.gauges + (size,))), lot.prices)
            found[size] = slow_plan_cost(more, state, many)
    return found


def slow_best(costs):
    known = [size for size in sorted(costs) if costs[size] is not None]
    return next((size for size in known if costs[size] == min(costs[other] for other in known)), None)


class Costs(unittest.TestCase):

    def test_the_example(self):
        self.assertEqual(gauge_costs(SHUT, START, 1), {7: None, 9: None})
        self.assertIsNone(best_gauge(SHUT, START, 1))

    def test_many_lots(self):
        best = []
        for lot in lots():
            for many in (1, 2, 3):
                costs = gauge_costs(lot, lot.start(), many)
                self.assertEqual(list(costs.items()), list(slow_costs(lot, lot.start(), many).items()))
                self.assertEqual(best_gauge(lot, lot.start(), many), slow_best(costs))
                best.append(slow_best(costs))
        self.assertTrue({None, 5, 6, 7, 8} <= set(best))

    def test_all_states_of_a_lot(self):
        lot = Lot(((4, 6),), ((6, 7), (8, 9)), (2, 3), (5,), (2, 3))
        for state in all_states(lot):
            self.assertEqual(list(gauge_costs(lot, state, 1).items()), list(slow_costs(lot, state, 1).items()))

    def test_a_gauge_that_is_missing(self):
        lot = lot_with(gauges=(5, 9))
        self.assertEqual(gauge_costs(lot, START, 1), {7: 2})
        self.assertEqual(best_gauge(lot, START, 1), 7)
        self.assertEqual(plan_cost(lot, START, 1), None)

    def test_of_several_the_first(self):
        # A pin of four sizes of which the two in the middle fit, so that the further gauge goes to either side.
        lot = Lot(((4, 7),), ((9, 9),), (3, 4), (5, 7), (1, None))
        self.assertEqual([gauge_costs(lot, lot.start(), 1), best_gauge(lot, lot.start(), 1)], [{6: 2}, 6])
        lot = Lot(((4, 5),), ((6, 7), (8, 9)), (3, 3), (7,), (1, 2))
        self.assertEqual([gauge_costs(lot, START, 1), best_gauge(lot, START, 1)], [{5: 3, 9: 3}, 5])
        lot = Lot(((4, 4),), ((7, 10),), (4, 5), (), (1, 1))
        self.assertEqual([gauge_costs(lot, lot.start(), 1), best_gauge(lot, lot.start(), 1)], [{8: 1, 9: 1, 10: 1}, 8])

    def test_the_best_need_not_be_the_first(self):
        lot = Lot(((4, 4),), ((7, 10),), (5, 6), (), (1, 9))
        self.assertEqual([gauge_costs(lot, lot.start(), 1), best_gauge(lot, lot.start(), 1)], [{8: 9, 9: 1, 10: 9}, 9])
        lot = Lot(((4, 4),), ((7, 10),), (5, 6), (), (1, None))
        self.assertEqual(gauge_costs(lot, lot.start(), 1), {8: None, 9: 1, 10: None})
        self.assertEqual(best_gauge(lot, lot.start(), 1), 9)
        lot = Lot(((4, 4),), ((7, 10),), (5, 5), (), (1, None))
        self.assertEqual(gauge_costs(lot, lot.start(), 1), {8: None, 9: None, 10: None})
        self.assertIsNone(best_gauge(lot, lot.start(), 1))

    def test_a_plan_of_cost_zero_is_the_best(self):
        self.assertEqual([gauge_costs(SHUT, START, 2), best_gauge(SHUT, START, 2)], [{7: 0, 9: 0}, 7])

    def test_no_further_size(self):
        for lot, state in [(lot_with(), START), (SHUT, ((4, 5), (6, 6), (8, 8))), (SHUT, ((4, 4), (6, 6), (8, 8)))]:
            self.assertEqual(gauge_costs(lot, state, 1), {})
            self.assertIsNone(best_gauge(lot, state, 1))
            self.assertEqual(more_gauges(lot, state, 1).rows, {})
            self.assertTrue(more_gauges(lot, state, 1).shows(lot, state, 1))

    def test_the_least_and_the_greatest_size(self):
        lot = Lot(((0, 2),), ((27, 30),), (0, 0), (), (1, None))
        self.assertEqual(list(gauge_costs(lot, lot.start(), 1)), [1, 2, 28, 29, 30])

    def test_sizes_between_and_around_those_of_the_lot(self):
        lot = Lot(((4, 7),), ((12, 14),), (9, 9), (1, 6, 13), (1, None))
        self.assertEqual(list(gauge_costs(lot, lot.start(), 1)), [5, 7, 14])
        self.assertEqual(list(gauge_costs(lot, ((5, 7), (12, 13)), 1)), [7])
        self.assertEqual([size for size, _ in more_gauges(lot, lot.start(), 1)], [5, 7, 14])


class Rows(unittest.TestCase):

    def test_many_lots(self):
        for lot in lots():
            for many in (1, 2, 3):
                found = more_gauges(lot, lot.start(), many)
                costs = {size: None if isinstance(row, Stuck) else row.bound for size, row in found.rows.items()}
                self.assertEqual(list(costs.items()), list(gauge_costs(lot, lot.start(), many).items()))
                self.assertIs(found.shows(lot, lot.start(), many), True)
                for size, row in found:
                    more = Lot(lot.pins, lot.bores, lot.gap, tuple(sorted(lot.gauges + (size,))), lot.prices)
                    self.assertTrue(row.shows(more, lot.start(), many))

    def test_kinds_of_values(self):
        lot = lot_with(gauges=(9,))
        found = more_gauges(lot, START, 1)
        self.assertIs(found.rows.__class__, dict)
        self.assertEqual([row.__class__ for row in found.rows.values()], [Stuck, Stuck])
        self.assertEqual(more_gauges(lot_with(gauges=(5, 9)), START, 1).rows[7].__class__, Plan)

    def test_it_can_be_iterated_over(self):
        one, other = Stuck([]), Plan(0, None, {})
        found = Gauges({9: one, 7: other})
        for _ in range(2):
            pairs = list(found)
            self.assertEqual([size for size, _ in pairs], [9, 7])
            self.assertTrue(pairs[0][1] is one and pairs[1][1] is other)
        self.assertEqual([pair.__class__ for pair in found], [tuple, tuple])
        self.assertEqual(list(Gauges({})), [])

    def test_the_lot_is_not_changed(self):
        lot = lot_with(gauges=(5,))
        more_gauges(lot, START, 1)
        self.assertTrue(lot == SHUT)


class Shows(unittest.TestCase):

    def setUp(self):
        self.lot = lot_with(gauges=(5,), prices=(1, 3))
        self.rows = more_gauges(self.lot, START, 1).rows

    def shows(self, rows, lot=None, state=START, many=1):
        return Gauges(rows).shows(lot or self.lot, state, many)

    def test_the_dict_in_any_order(self):
        self.assertIs(self.shows(self.rows), True)
        self.assertIs(self.shows({size: self.rows[size] for size in (9, 7)}), True)

    def test_by_hand(self):
        small = ((4, 4), (6, 7), (8, 9))
        row = Stuck([START, small])
        self.assertFalse(self.shows({7: row, 9: row}, lot=SHUT))
        row = {7: Stuck([START, ((5, 5), (6, 7), (8, 9)), ((4, 5), (6, 6), (8, 9)), ((5, 5), (6, 6), (8, 9))]),
               9: Stuck([START, small, ((4, 5), (6, 7), (8, 8)), ((4, 4), (6, 7), (8, 8))])}
        self.assertTrue(self.shows(row, lot=SHUT))
        self.assertFalse(self.shows({7: row[9], 9: row[7]}, lot=SHUT))

    def test_a_missing_or_a_further_size(self):
        for size in self.rows:
            self.assertIs(self.shows({other: self.rows[other] for other in self.rows if other != size}), False)
        self.assertIs(self.shows({}), False)
        for size in (0, 4, 5, 6, 8, 10, 30, -7):
            self.assertIs(self.shows({**self.rows, size: self.rows[7]}), False)

    def test_another_row(self):
        for size in self.rows:
            for row in [Stuck([START]), Stuck([]), Plan(0, None, {}), Plan(1, None, {START: 1}),
                        Plan(self.rows[size].bound + 1, self.rows[size].tree, self.rows[size].levels),
                        Plan(self.rows[size].bound, self.rows[size].tree, {})]:
                self.assertIs(self.shows({**self.rows, size: row}), False)
        self.assertIs(self.shows({7: self.rows[9], 9: self.rows[7]}), False)

    def test_a_row_for_the_lot_without_the_gauge(self):
        lot = lot_with(gauges=(5, 9))
        found = more_gauges(lot, START, 1).rows
        self.assertTrue(self.shows(found, lot=lot))
        self.assertTrue(plan(lot, START, 1).shows(lot, START, 1))
        self.assertFalse(self.shows({7: plan(lot, START, 1)}, lot=lot))
        self.assertTrue(self.shows({7: plan(lot_with(), START, 1)}, lot=lot))

    def test_rows_of_another_kind(self):
        for row in (None, 2, self.lot, (), [START], Gauges({})):
            self.assertIs(self.shows({**self.rows, 7: row}), False)

    def test_booleans_are_no_sizes(self):
        lot = Lot(((0, 1),), ((0, 0),), (0, 0), (), (1, None))
        row = more_gauges(lot, lot.start(), 1).rows[1]
        self.assertIs(self.shows({1: row}, lot=lot, state=lot.start()), True)
        self.assertIs(self.shows({True: row}, lot=lot, state=lot.start()), False)
        self.assertIs(self.shows({False: row, 1: row}, lot=lot, state=lot.start()), False)
        for size in (None, "7", (7,)):
            self.assertIs(self.shows({**self.rows, size: self.rows[7]}), False)
            self.assertIs(self.shows({size: self.rows[7]}), False)

    def test_for_another_state_or_number(self):
        self.assertIs(self.shows(self.rows, many=2), False)
        self.assertIs(self.shows(self.rows, state=((4, 4), (6, 7), (8, 9))), False)
        self.assertIs(self.shows(self.rows, state=((4, 5), (6, 7), (8, 8))), False)
        self.assertIs(self.shows({}, state=((4, 5), (6, 6), (8, 8))), True)

    def test_the_current_attribute_counts(self):
        found = more_gauges(self.lot, START, 1)
        found.rows[7].levels.clear()
        self.assertFalse(found.shows(self.lot, START, 1))
        found.rows[7] = self.rows[7]
        self.assertTrue(found.shows(self.lot, START, 1))
        found.rows = {}
        self.assertFalse(found.shows(self.lot, START, 1))
        self.assertEqual(list(found), [])
        found.rows = list(self.rows)
        self.assertFalse(found.shows(self.lot, START, 1))


class EqualityAndCopies(unittest.TestCase):

    def test_equal_if_the_rows_are(self):
        rows = {7: Stuck([START]), 9: Plan(0, None, {})}
        same = {9: Plan(0, None, {}), 7: Stuck([START])}
        self.assertIs(Gauges(rows) == Gauges(same), True)
        self.assertIs(Gauges(rows) != Gauges(same), False)
        for other in ({7: Stuck([START])}, {}, {7: Stuck([]), 9: Plan(0, None, {})}, {7: rows[9], 9: rows[7]}):
            self.assertIs(Gauges(rows) == Gauges(other), False)
            self.assertIs(Gauges(rows) != Gauges(other), True)
        self.assertTrue(more_gauges(SHUT, START, 1) == more_gauges(SHUT, START, 1))

    def test_objects_of_different_classes(self):
        objects = [Gauges({}), Stuck([]), Plan(0, None, {}), SHUT]
        for one, other in product(objects, objects):
            if one is not other:
                self.assertEqual([one == other, one != other], [False, True])

    def test_the_dict_is_copied(self):
        rows = {7: Stuck([START])}
        found = Gauges(rows)
        rows.clear()
        self.assertEqual(list(found.rows), [7])
        found.rows[9] = None
        self.assertEqual(rows, {})

    def test_a_changed_answer_does_not_change_a_later_one(self):
        found = more_gauges(SHUT, START, 1)
        found.rows[7].states.clear()
        found.rows.pop(9)
        self.assertTrue(more_gauges(SHUT, START, 1).shows(SHUT, START, 1))
        costs = gauge_costs(SHUT, START, 1)
        costs.clear()
        self.assertEqual(gauge_costs(SHUT, START, 1), {7: None, 9: None})

    def test_attributes_are_set_when_an_object_is_created(self):
        self.assertEqual(Gauges(rows={}).rows, {})


class Limits(unittest.TestCase):

    def lot(self, *sizes):
        ranges = tuple((4, 3 + many) for many in sizes)
        return Lot(ranges[:len(sizes) // 2], ranges[len(sizes) // 2:], (9, 9), (1,), (1, None))

    def test_just_kept(self):
        for sizes in [(4, 4, 3), (4, 3, 2, 2, 1), (3, 2, 2, 2, 2)]:
            lot = self.lot(*sizes)
            costs = gauge_costs(lot, lot.start(), 1)
            self.assertEqual([list(costs), set(costs.values())], [list(range(5, 4 + sizes[0])), {0}])
            self.assertTrue(more_gauges(lot, lot.start(), 1).shows(lot, lot.start(), 1))
            self.assertEqual(best_gauge(lot, lot.start(), 1), 5)

    def test_just_passed(self):
        for sizes in [(3, 3, 3, 2), (4, 4, 4), (2,) * 6]:
            lot = self.lot(*sizes)
            for call in (more_gauges, gauge_costs, best_gauge):
                self.assertRaises(TooLarge, call, lot, lot.start(), 1)

    def test_also_without_a_further_size(self):
        lot = Lot(((4, 6), (4, 6)), ((4, 6), (4, 5)), (9, 9), (5, 6), (1, None))
        for call in (more_gauges, gauge_costs, best_gauge):
            self.assertRaises(TooLarge, call, lot, lot.start(), 1)
        state = ((4, 6), (4, 6), (4, 6), (5, 5))
        self.assertEqual([gauge_costs(lot, state, 1), best_gauge(lot, state, 1)], [{}, None])


class Refusals(unittest.TestCase):

    def calls(self):
        return [more_gauges, gauge_costs, best_gauge, Gauges({}).shows]

    def test_not_a_lot(self):
        for call, lot in product(self.calls(), STRANGE + [START, Lot]):
            with self.subTest(call=call, lot=lot), self.assertRaises(BadLot) as caught:
                call(lot, None, None)
            self.assertIsNone(caught.exception.part)

    def test_not_a_state(self):
        wrong = [((4, 5), (6, 7)), ((4, 6), (6, 7), (8, 9)), ((5, 4), (6, 7), (8, 9)), [(4, 5), (6, 7), (8, 9)]]
        for call, state, lot in product(self.calls(), wrong + STRANGE, (SHUT, FULL)):
            with self.subTest(call=call, state=state):
                self.assertRaises(BadState, call, lot, state, None)

    def test_not_a_number_of_pairs(self):
        for call, many, lot in product(self.calls(), WRONG_MANY, (SHUT, FULL)):
            with self.subTest(call=call, many=many):
                self.assertRaises(BadMany, call, lot, START, many)

    def test_four_gauges(self):
        for call in self.calls():
            self.assertRaises(FullLot, call, FULL, START, 1)
            self.assertRaises(FullLot, call, FULL, ((4, 4), (6, 6), (8, 8)), 3)

    def test_three_gauges_and_none(self):
        lot = lot_with(gauges=(5, 7, 11))
        self.assertEqual(gauge_costs(lot, START, 1), {9: 2})
        lot = lot_with(gauges=())
        self.assertEqual(gauge_costs(lot, START, 1), {5: None, 7: None, 9: None})
        lot = Lot(((4, 5),), ((6, 6),), (2, 2), (), (1, None))
        self.assertEqual(gauge_costs(lot, lot.start(), 1), {5: 1})

    def test_a_full_lot_comes_before_the_limit(self):
        lot = Lot(((4, 7),) * 3, ((4, 7),) * 3, (9, 9), (1, 2, 3, 4), (1, None))
        for call in self.calls():
            self.assertRaises(FullLot, call, lot, lot.start(), 1)
            self.assertRaises(BadMany, call, lot, lot.start(), 0)
        lot = Lot(((4, 7),) * 3, ((4, 7),) * 3, (9, 9), (1, 2, 3), (1, None))
        for call in self.calls()[:3]:
            self.assertRaises(TooLarge, call, lot, lot.start(), 1)
        self.assertIs(Gauges({}).shows(lot, lot.start(), 1), False)
        rows = {size: Plan(0, None, {}) for size in (5, 6, 7)}
        self.assertIs(Gauges(rows).shows(lot, lot.start(), 1), True)

    def test_the_arguments_are_checked_before_the_attribute(self):
        for rows in ({}, {"7": 7}):
            self.assertRaises(BadLot, Gauges(rows).shows, None, START, 1)
            self.assertRaises(FullLot, Gauges(rows).shows, FULL, START, 1)


if __name__ == "__main__":
    unittest.main()
