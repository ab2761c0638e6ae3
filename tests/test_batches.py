"""Point 6: batches, beforehand."""

import unittest
from itertools import product

from surefit.batches import Batch, NoBatch, batch, batch_cost
from surefit.errors import BadLot, BadMany, BadState, TooLarge
from surefit.lots import Lot
from surefit.plans import Plan, plan_cost
from surefit.probes import all_tests
from tests.samples import (STRANGE, WRONG_MANY, all_states, changed_proofs, lot_with, nested_lists, slow_batch_cost,
                           slow_batch_results, slow_open, slow_price, slow_proof, slow_tests)

SHAPES = [
    (((4, 7),), ((6, 8),)),
    (((4, 5), (5, 6)), ((7, 8),)),
    (((4, 5),), ((6, 7), (7, 8))),
    (((4, 5), (4, 4), (6, 7)), ((6, 7), (6, 6), (8, 8))),
]
GAPS = [(2, 2), (1, 2), (0, 3)]
GAUGES = [(), (7,), (5, 7), (5, 6, 7, 8)]
PRICES = [(1, None), (1, 1), (2, 1), (1, 3), (4, 9)]

TWO = lot_with()
SHUT = lot_with(gauges=(5,))
START = TWO.start()
TESTS = [("gauge", 0, 5), ("gauge", 1, 7), ("gauge", 2, 9)]
LEAF = ("price", None, None)
OPEN = [("open", ((4, 5), (7, 7), (8, 8)), None), ("open", ((4, 4), (6, 7), (8, 8)), None),
        ("open", ((5, 5), (6, 6), (8, 9)), None)]
TREE = (TESTS[0], (TESTS[1], (TESTS[2], LEAF, OPEN[2]), OPEN[1]), OPEN[0])


def lots():
    for (pins, bores), gap, gauges, prices in product(SHAPES, GAPS, GAUGES, PRICES):
        lot = Lot(pins, bores, gap, gauges, prices)
        if len(slow_tests(lot, lot.start())) <= 10:
            yield lot


class Costs(unittest.TestCase):

    def test_the_example(self):
        self.assertEqual([batch_cost(TWO, START, 1), plan_cost(TWO, START, 1)], [3, 2])
        self.assertIsNone(batch_cost(SHUT, START, 1))

    def test_many_lots(self):
        found = {}
        for lot in lots():
            for many in (1, 2, 3):
                cost = batch_cost(lot, lot.start(), many)
                self.assertEqual(cost, slow_batch_cost(lot, lot.start(), many))
                found.setdefault(many, []).append(cost)
        for costs in found.values():
            self.assertTrue({None, 0, 3, 9} < set(costs))

    def test_all_states_of_a_lot(self):
        lot = Lot(((4, 6),), ((6, 7), (8, 9)), (2, 3), (5, 7), (2, 3))
        for state in all_states(lot):
            for many in (1, 2):
                self.assertEqual(batch_cost(lot, state, many), slow_batch_cost(lot, state, many))

    def test_a_gauge_or_a_measure(self):
        for prices, cost in [((1, None), 2), ((1, 1), 1), ((1, 2), 2), ((1, 9), 2), ((5, 9), 9), ((4, 9), 8)]:
            lot = Lot(((4, 7),), ((5, 5),), (0, 0), (5, 6, 7), prices)
            self.assertEqual(batch_cost(lot, lot.start(), 1), cost)

    def test_what_a_settled_state_costs(self):
        self.assertEqual([batch_cost(TWO, START, many) for many in (2, 3)], [0, 0])
        self.assertEqual(batch_cost(lot_with(gauges=()), ((4, 4), (6, 6), (8, 9)), 1), 0)

    def test_it_is_never_cheaper_than_as_one_goes(self):
        for lot in lots():
            for many in (1, 2, 3):
                beforehand, going = batch_cost(lot, lot.start(), many), plan_cost(lot, lot.start(), many)
                self.assertEqual(beforehand is None, going is None)
                self.assertTrue(going is None or going <= beforehand)


class Batches(unittest.TestCase):

    def test_many_lots(self):
        for lot in lots():
            for many in (1, 2, 3):
                state = lot.start()
                found, cost = batch(lot, state, many), batch_cost(lot, state, many)
                self.assertIs(found.__class__, NoBatch if cost is None else Batch)
                self.assertIs(found.shows(lot, state, many), True)
                if cost is None:
                    self.assertIn(found.state, slow_open(lot, state, many, all_tests(lot, state)))
                else:
                    self.assertEqual(sum(slow_price(lot, test) for test in found.tests), cost)
                    self.assertEqual(len(found.tests), len(set(found.tests) & set(all_tests(lot, state))))
                    self.assertEqual(slow_open(lot, state, many, found.tests), [])
                    self.assertTrue(slow_proof(lot, state, many, found.tree, cost))

    def test_kinds_of_values(self):
        found = batch(TWO, START, 1)
        self.assertEqual([found.tests.__class__, found.tree.__class__], [list, tuple])
        self.assertEqual(sorted(found.tests), TESTS)
        found = batch(SHUT, START, 1)
        self.assertIn(found.state, slow_batch_results(START, all_tests(SHUT, START)))

    def test_a_settled_state(self):
        found = batch(TWO, START, 2)
        self.assertEqual(found.tests, [])
        self.assertTrue(found.shows(TWO, START, 2))

    def test_it_can_be_iterated_over(self):
        found = Batch(TESTS[::-1], TREE)
        self.assertEqual([list(found), list(found), [test for test in found]], [TESTS[::-1]] * 3)
        self.assertEqual(list(batch(TWO, START, 1)), batch(TWO, START, 1).tests)

    def test_one_for_another_state_or_number_shows_nothing(self):
        found = batch(TWO, START, 1)
        self.assertFalse(found.shows(TWO, ((4, 4), (6, 7), (8, 9)), 1))
        self.assertFalse(found.shows(TWO, START, 2))
        self.assertFalse(found.shows(SHUT, START, 1))


class ShowsOfBatches(unittest.TestCase):

    def shows(self, tests, tree, lot=TWO, state=START, many=1):
        return Batch(tests, tree).shows(lot, state, many)

    def test_by_hand(self):
        self.assertIs(self.shows(TESTS, TREE), True)

    def test_tests_in_any_order(self):
        self.assertIs(self.shows(TESTS[::-1], TREE), True)
        self.assertIs(self.shows([TESTS[1], TESTS[2], TESTS[0]], TREE), True)

    def test_tests_that_are_not_enough(self):
        for tests in (TESTS[:2], TESTS[1:], [TESTS[0], TESTS[2]], TESTS[:1], []):
            self.assertIs(self.shows(tests, TREE), False)
            self.assertIs(self.shows(tests, LEAF), False)

    def test_tests_that_are_not_different(self):
        self.assertIs(self.shows(TESTS + TESTS[:1], TREE), False)
        self.assertIs(self.shows(TESTS + TESTS, TREE), False)
        state = ((4, 4), (6, 7), (8, 9))
        tree = (TESTS[1], LEAF, ("open", ((4, 4), (6, 7), (8, 8)), None))
        self.assertIs(self.shows([TESTS[1]], tree, state=state), True)
        self.assertIs(self.shows([TESTS[1]] * 2, tree, state=state), False)

    def test_tests_that_are_not_possible(self):
        for test in [("gauge", 0, 4), ("gauge", 0, 7), ("gauge", 3, 5), ("gauge", -3, 5), ("measure", 0), ("gauge", 0),
                     ("measure", 0, 5), (), ("grind", 0), ["gauge", 0, 5], None, "gauge"]:
            self.assertIs(self.shows(TESTS + [test], TREE), False)
            self.assertIs(self.shows([test], LEAF), False)

    def test_a_tuple_of_tests(self):
        found = Batch(TESTS, TREE)
        found.tests = tuple(TESTS)
        self.assertIs(found.shows(TWO, START, 1), False)

    def test_tests_that_are_too_dear(self):
        # All tests of this state are enough, but two of them as well.
        lot = lot_with(prices=(1, 9))
        tree = batch(lot, START, 1).tree
        self.assertIs(self.shows(TESTS, tree, lot=lot), True)
        self.assertIs(self.shows(all_tests(lot, START), tree, lot=lot), False)
        self.assertIs(self.shows(TESTS[:2] + [("measure", 2)], tree, lot=lot), False)
        self.assertIs(self.shows([("measure", 0)], LEAF, lot=lot), False)

    def test_cheaper_tests_need_a_leaf_of_another_kind(self):
        # For each test that is left out, the rest cost less, so that a price alone shows nothing.
        self.assertIs(self.shows(TESTS, LEAF), False)
        self.assertIs(self.shows(TESTS, (TESTS[0], LEAF, OPEN[0])), False)
        self.assertIs(self.shows(TESTS, (TESTS[0], (TESTS[1], LEAF, OPEN[1]), OPEN[0])), False)
        self.assertIs(self.shows([], LEAF, many=2), True)

    def test_the_prices_of_the_tests_that_are_in(self):
        # One measure at 3, or two gauges at 2 each: it is dearer to have both gauges, or a gauge and the measure.
        lot = Lot(((4, 7),), ((5, 5),), (0, 0), (5, 6), (2, 3))
        first, second, third = all_tests(lot, lot.start())
        closed = [("open", ((5, 7), (5, 5)), None), ("open", ((4, 5), (5, 5)), None)]
        tree = (third, LEAF, (first, (second, LEAF, closed[0]), closed[1]))
        self.assertIs(self.shows([third], tree, lot=lot, state=lot.start()), True)
        self.assertIs(self.shows([first, second], tree, lot=lot, state=lot.start()), False)
        lot = Lot(((4, 7),), ((5, 5),), (0, 0), (5, 6), (1, 3))
        self.assertIs(self.shows([first, second], tree, lot=lot, state=lot.start()), True)
        self.assertIs(self.shows([third], tree, lot=lot, state=lot.start()), False)

    def test_an_open_result(self):
        def shows(result):
            return self.shows(TESTS, TREE[:2] + (("open", result, None),))

        for result in slow_batch_results(START, TESTS[1:]):
            self.assertIs(shows(result), result in slow_open(TWO, START, 1, TESTS[1:]))
        self.assertIs(shows(((4, 5), (7, 7), (8, 8))), True)
        # Not a result of the tests that are not out: a result of all tests, or of fewer of them.
        for result in [((4, 4), (6, 6), (8, 8)), ((5, 5), (7, 7), (8, 8)), ((4, 5), (6, 7), (8, 8)), START,
                       ((4, 4), (7, 7), (8, 8)), ((4, 5), (7, 7), (8, 9))]:
            self.assertIs(shows(result), False)
        for result in [None, (), ((4, 5), (7, 7)), ((4, 5), (7, 7), (8, 8), (8, 8)), [(4, 5), (7, 7), (8, 8)],
                       ((4, 5), (7, 7), [8, 8]), ((4, 5), (7, 7), (8, 10)), LEAF, TREE, 0, "open"]:
            self.assertIs(shows(result), False)

    def test_booleans_in_an_open_result(self):
        lot = Lot(((0, 1),), ((0, 1),), (0, 0), (1,), (1, None))
        tests = all_tests(lot, lot.start())
        for low, right in [(0, True), (False, False)]:
            shut = [("open", ((0, 1), (low, 0)), None), ("open", ((0, 0), (0, 1)), None)]
            tree = (tests[0], (tests[1], LEAF, shut[1]), shut[0])
            self.assertIs(self.shows(tests, tree, lot=lot, state=lot.start()), right)

    def test_booleans_in_tests(self):
        lot = Lot(((0, 1),), ((0, 0),), (0, 0), (1,), (1, None))
        closed = ("open", ((0, 1), (0, 0)), None)
        self.assertIs(self.shows([("gauge", 0, 1)], (("gauge", 0, 1), LEAF, closed), lot=lot, state=lot.start()), True)
        for test in [("gauge", False, 1), ("gauge", 0, True)]:
            self.assertIs(self.shows([test], (("gauge", 0, 1), LEAF, closed), lot=lot, state=lot.start()), False)
            self.assertIs(self.shows([("gauge", 0, 1)], (test, LEAF, closed), lot=lot, state=lot.start()), False)

    def test_leaves_that_are_not_as_they_must_be(self):
        for leaf in [("price", START, None), ("price", None, START), ("price", None, LEAF), ("price", LEAF, LEAF),
                     ("price", None), ("price",), ("price", None, None, None), ["price", None, None], None, (), "price",
                     ("Price", None, None), ("open", None, None), (None, None, None), ("", None, None)]:
            self.assertIs(self.shows([], leaf, many=2), False)
        for leaf in [("open", OPEN[0][1], LEAF), ("open", OPEN[0][1], OPEN[0][1]), ("open", None, OPEN[0][1]),
                     ("open", OPEN[0][1]), ("open", OPEN[0][1], None, None), ["open", OPEN[0][1], None],
                     ("shut", OPEN[0][1], None), ("price", OPEN[0][1], None)]:
            self.assertIs(self.shows(TESTS, TREE[:2] + (leaf,)), False)

    def test_a_test_that_is_in_or_out_already(self):
        self.assertIs(self.shows(TESTS, (TESTS[0], TREE[1], (TESTS[0], OPEN[0], OPEN[0]))), False)
        self.assertIs(self.shows(TESTS, (TESTS[0], (TESTS[0], TREE[1], OPEN[0]), OPEN[0])), False)
        self.assertIs(self.shows(TESTS, (TESTS[0], TREE[1], (TESTS[1], OPEN[0], (TESTS[2], OPEN[2], OPEN[2])))), False)

    def test_more_tests_than_needed_in_a_tree(self):
        more = (TESTS[1], OPEN[0], ("open", ((4, 5), (6, 7), (8, 8)), None))
        self.assertIs(self.shows(TESTS, (TESTS[0], TREE[1], more)), True)
        self.assertIs(self.shows(TESTS, (TESTS[0], TREE[1], (TESTS[1], OPEN[0], OPEN[0]))), False)

    def test_both_trees_count(self):
        self.assertIs(self.shows(TESTS, (TESTS[0], TREE[1], LEAF)), False)
        self.assertIs(self.shows(TESTS, (TESTS[0], LEAF, TREE[2])), False)
        self.assertIs(self.shows(TESTS, (TESTS[0], TREE[2], TREE[1])), False)

    def test_lists_in_the_place_of_tuples(self):
        for tree in nested_lists(TREE):
            self.assertIs(self.shows(TESTS, tree), False)

    def test_changed_trees(self):
        results = [leaf[1] for leaf in OPEN] + [START, ((4, 4), (7, 7), (8, 8))]
        seen = []
        for tree in changed_proofs(TREE, TESTS + [("measure", 0), ("gauge", 0, 7)], results):
            right = slow_proof(TWO, START, 1, tree, 3)
            self.assertIs(self.shows(TESTS, tree), right)
            seen.append(right)
        self.assertTrue(len(seen) > 100 and True in seen and False in seen)

    def test_changed_trees_with_measures(self):
        lot = Lot(((4, 6),), ((6, 7),), (2, 2), (5, 7), (2, 3))
        state = lot.start()
        found, tests = batch(lot, state, 1), all_tests(lot, state)
        cost = batch_cost(lot, state, 1)
        for tree in changed_proofs(found.tree, tests, all_states(lot)):
            self.assertIs(self.shows(found.tests, tree, lot=lot, state=state), slow_proof(lot, state, 1, tree, cost))

    def test_the_current_attributes_count(self):
        found = batch(TWO, START, 1)
        found.tests.pop()
        self.assertFalse(found.shows(TWO, START, 1))
        found.tests, found.tree = TESTS, TREE
        self.assertTrue(found.shows(TWO, START, 1))
        self.assertEqual(list(found), TESTS)
        found.tree = LEAF
        self.assertFalse(found.shows(TWO, START, 1))

    def test_a_state_that_is_too_large_for_a_batch(self):
        lot = Lot(((4, 7),) * 3, ((4, 7),) * 3, (9, 9), (5, 6, 7), (1, 1))
        tests = all_tests(lot, lot.start())
        self.assertEqual(len(tests), 24)
        self.assertTrue(Batch([], LEAF).shows(lot, lot.start(), 1))
        self.assertFalse(Batch(tests, LEAF).shows(lot, lot.start(), 1))
        self.assertFalse(Batch(tests, (tests[0], LEAF, LEAF)).shows(lot, lot.start(), 1))


class NoBatches(unittest.TestCase):

    def test_its_state_is_a_result_of_all_tests_that_is_not_settled(self):
        for lot in (SHUT, lot_with(gauges=()), lot_with(gauges=(5, 9))):
            for state in all_states(lot):
                left = slow_open(lot, START, 1, all_tests(lot, START))
                self.assertIs(NoBatch(state).shows(lot, START, 1), state in left)

    def test_it_shows_nothing_where_there_is_a_batch(self):
        for state in all_states(TWO):
            self.assertIs(NoBatch(state).shows(TWO, START, 1), False)
            self.assertIs(NoBatch(state).shows(TWO, START, 2), False)

    def test_without_any_test(self):
        lot = lot_with(gauges=())
        self.assertTrue(batch(lot, START, 1) == NoBatch(START))
        self.assertTrue(NoBatch(START).shows(lot, START, 1))

    def test_what_is_no_state(self):
        for state in [(), ((4, 4), (6, 7)), ((4, 4), (6, 7), (8, 9), (8, 9)), [(4, 4), (6, 7), (8, 9)], None, 0,
                      ((4, 4), [6, 7], (8, 9)), ((4, 4), (6, 7), (8, 10)), "state"]:
            self.assertIs(NoBatch(state).shows(SHUT, START, 1), False)

    def test_booleans(self):
        lot = Lot(((0, 1),), ((0, 0),), (0, 0), (), (1, None))
        self.assertIs(NoBatch(((0, 1), (0, 0))).shows(lot, lot.start(), 1), True)
        self.assertIs(NoBatch(((0, True), (0, 0))).shows(lot, lot.start(), 1), False)
        self.assertIs(NoBatch(((False, 1), (0, 0))).shows(lot, lot.start(), 1), False)

    def test_the_current_attribute_counts(self):
        found = batch(SHUT, START, 1)
        found.state = START
        self.assertFalse(found.shows(SHUT, START, 1))
        found.state = ((5, 5), (6, 7), (8, 9))
        self.assertTrue(found.shows(SHUT, START, 1))


class EqualityAndCopies(unittest.TestCase):

    def test_batches(self):
        found = Batch(TESTS, TREE)
        self.assertIs(found == Batch(TESTS, TREE), True)
        self.assertIs(found != Batch(TESTS, TREE), False)
        for other in (Batch(TESTS[::-1], TREE), Batch(TESTS[:2], TREE), Batch(TESTS, LEAF)):
            self.assertIs(found == other, False)
            self.assertIs(found != other, True)
        self.assertTrue(batch(TWO, START, 1) == batch(TWO, START, 1))

    def test_no_batches(self):
        self.assertIs(NoBatch(START) == NoBatch(START), True)
        self.assertIs(NoBatch(START) != NoBatch(START), False)
        self.assertIs(NoBatch(START) == NoBatch(START[:2]), False)
        self.assertIs(NoBatch(START) != NoBatch(START[:2]), True)

    def test_objects_of_different_classes(self):
        objects = [Batch([], None), NoBatch(None), TWO, Plan(0, None, {})]
        for one, other in product(objects, objects):
            if one is not other:
                self.assertEqual([one == other, one != other], [False, True])

    def test_the_list_is_copied(self):
        tests = list(TESTS)
        found = Batch(tests, TREE)
        tests.clear()
        self.assertEqual(found.tests, TESTS)
        found.tests.append(None)
        self.assertEqual(tests, [])

    def test_a_changed_answer_does_not_change_a_later_one(self):
        batch(TWO, START, 1).tests.clear()
        self.assertEqual(sorted(batch(TWO, START, 1).tests), TESTS)
        self.assertEqual(batch_cost(TWO, START, 1), 3)

    def test_attributes_are_set_when_an_object_is_created(self):
        found = Batch(tree=TREE, tests=TESTS)
        self.assertEqual([found.tests, found.tree, NoBatch(state=START).state], [TESTS, TREE, START])


class Limits(unittest.TestCase):

    def lot(self, gauges=(), price=None, sizes=()):
        ranges = tuple((4, 3 + many) for many in sizes)
        return Lot(ranges[:len(sizes) // 2], ranges[len(sizes) // 2:], (9, 9), gauges, (1, price))

    def refused(self, lot, state):
        for many in (1, 2, 3):
            self.assertRaises(TooLarge, batch, lot, state, many)
            self.assertRaises(TooLarge, batch_cost, lot, state, many)

    def test_the_states_just_kept(self):
        for sizes in [(4, 4, 1, 3), (4, 3, 2, 2, 1), (2, 2, 2, 1, 2, 2)]:
            lot = self.lot(sizes=sizes)
            self.assertEqual(batch_cost(lot, lot.start(), 1), 0)
            self.assertTrue(batch(lot, lot.start(), 1).shows(lot, lot.start(), 1))

    def test_the_states_just_passed(self):
        for sizes in [(3, 3, 3, 2), (4, 4, 4, 1), (2,) * 6]:
            lot = self.lot(sizes=sizes)
            self.refused(lot, lot.start())

    def test_ten_tests_and_eleven(self):
        # Gauges 5, 6 and 7 are three tests for four sizes, two for three, one for two, and a measure one more.
        for price, sizes, count in [(None, (4, 4, 3), 8), (1, (4, 4, 2), 10), (1, (2,) * 5, 10), (1, (4, 3, 3), 10),
                                    (1, (4, 3, 2), 9)]:
            lot = self.lot((5, 6, 7), price, sizes)
            self.assertEqual(len(all_tests(lot, lot.start())), count)
            self.assertTrue(batch(lot, lot.start(), 1).shows(lot, lot.start(), 1))
            self.assertEqual(batch_cost(lot, lot.start(), 1), 0)
        for price, sizes, count in [(1, (4, 4, 3), 11), (1, (3, 2, 2, 2, 2), 11), (1, (4, 3, 2, 2), 11)]:
            lot = self.lot((5, 6, 7), price, sizes)
            self.assertEqual(len(all_tests(lot, lot.start())), count)
            self.refused(lot, lot.start())

    def test_the_tests_of_the_state_count(self):
        lot = self.lot((5, 6, 7), 1, (4, 4, 4))
        self.assertEqual(batch_cost(lot, ((4, 7), (4, 7), (5, 6)), 1), 0)
        self.refused(lot, ((4, 7), (4, 7), (5, 7)))

    def test_a_batch_at_the_limit(self):
        lot = Lot(((4, 5), (4, 5), (5, 6)), ((6, 7), (7, 8)), (2, 2), (5, 6, 7, 8), (2, 3))
        self.assertEqual(len(all_tests(lot, lot.start())), 10)
        for many in (1, 2):
            self.assertEqual(batch_cost(lot, lot.start(), many), slow_batch_cost(lot, lot.start(), many))
            self.assertTrue(batch(lot, lot.start(), many).shows(lot, lot.start(), many))


class Refusals(unittest.TestCase):

    def calls(self):
        return [batch, batch_cost, Batch(TESTS, TREE).shows, NoBatch(START).shows]

    def test_not_a_lot(self):
        for call, lot in product(self.calls(), STRANGE + [START, Lot]):
            with self.subTest(call=call, lot=lot), self.assertRaises(BadLot) as caught:
                call(lot, None, None)
            self.assertIsNone(caught.exception.part)

    def test_not_a_state(self):
        wrong = [((4, 5), (6, 7)), ((4, 6), (6, 7), (8, 9)), ((5, 4), (6, 7), (8, 9)), [(4, 5), (6, 7), (8, 9)],
                 ((4, 5), [6, 7], (8, 9)), ((4, 5), (6, 7), (8, 9), (8, 9))]
        for call, state in product(self.calls(), wrong + STRANGE):
            with self.subTest(call=call, state=state):
                self.assertRaises(BadState, call, TWO, state, None)

    def test_not_a_number_of_pairs(self):
        for call, many in product(self.calls(), WRONG_MANY):
            with self.subTest(call=call, many=many):
                self.assertRaises(BadMany, call, TWO, START, many)

    def test_the_limit_comes_last(self):
        large = Lot(((4, 7),) * 3, ((4, 7),) * 3, (9, 9), (), (1, None))
        rich = Lot(((4, 7),) * 3, ((9, 9),), (9, 9), (5, 6, 7), (1, 1))
        for call, lot in product((batch, batch_cost), (large, rich)):
            self.assertRaises(TooLarge, call, lot, lot.start(), 1)
            self.assertRaises(BadMany, call, lot, lot.start(), 0)
            self.assertRaises(BadState, call, lot, START, 0)
        for found, lot in product((Batch(TESTS, TREE), NoBatch(START)), (large, rich)):
            self.assertRaises(BadMany, found.shows, lot, lot.start(), 4)
            self.assertIs(found.shows(lot, lot.start(), 1), False)

    def test_the_arguments_are_checked_before_the_attributes(self):
        for found in (Batch([7], 7), NoBatch(7)):
            self.assertRaises(BadLot, found.shows, None, START, 1)
            self.assertRaises(BadState, found.shows, TWO, None, 1)
            self.assertRaises(BadMany, found.shows, TWO, START, True)


if __name__ == "__main__":
    unittest.main()
