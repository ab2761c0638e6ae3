"""Point 4: tests that are possible in a state, and their results."""

import unittest
from itertools import product

from surefit.errors import BadLot, BadState, BadTest
from surefit.lots import Lot
from surefit.probes import all_tests, results
from tests.samples import STRANGE, all_states, lot_with, slow_results, slow_tests

MEASURED = {"gauges": (5, 7, 9), "prices": (1, 3)}

# None of these is a test that is possible at the start of the lot of the document's example, measures or not.
WRONG_TESTS = [
    ("gauge", 0, 4), ("gauge", 0, 6), ("gauge", 0, 7), ("gauge", 1, 5), ("gauge", 1, 6), ("gauge", 1, 8),
    ("gauge", 1, 9), ("gauge", 2, 8), ("gauge", 2, 10), ("gauge", 2, 7), ("gauge", 3, 9), ("gauge", -1, 9),
    ("gauge", -3, 5), ("gauge", 0), ("gauge", 5), ("gauge",), ("gauge", 0, 5, 5), ("gauge", 0, 5, None),
    ("gauge", (0, 5)), ("gauge", 0, None), ("gauge", None, 5), ("gauge", "0", "5"), ("gauge", 0, (5,)),
    ["gauge", 0, 5], ("gauge", [0], 5), (0, "gauge", 5), (0, 5, "gauge"), ("Gauge", 0, 5), ("gauges", 0, 5),
    (b"gauge", 0, 5), ("", 0, 5), (None, 0, 5), (["gauge"], 0, 5), (("gauge", 0, 5),), ("gauge 0 5",),
    ("gauge", False, 5), ("gauge", True, 7), ("gauge", 0, True), ("gauge", 10 ** 30, 5), ("gauge", 0, 10 ** 30),
    ("measure", 3), ("measure", -1), ("measure",), ("measure", 0, 5), ("measure", 0, None), ("measure", None),
    ("measure", "0"), ("measure", (0,)), ["measure", 0], ("measure", False), ("measure", True), (0, "measure"),
    ("Measure", 0), ("measures", 0), ("grind", 0), ("price", None, None), ("gauge", {}, 5), ("measure", {}),
    ("measure", object()), {"measure": 0}, "measure", 0,
]


class AllTests(unittest.TestCase):

    def test_gauges_alone(self):
        lot = lot_with()
        found = [("gauge", 0, 5), ("gauge", 1, 7), ("gauge", 2, 9)]
        self.assertEqual(all_tests(lot, lot.start()), found)

    def test_measures_come_behind_all_gauges(self):
        lot = lot_with(**MEASURED)
        found = [("gauge", 0, 5), ("gauge", 1, 7), ("gauge", 2, 9), ("measure", 0), ("measure", 1), ("measure", 2)]
        self.assertEqual(all_tests(lot, lot.start()), found)

    def test_measures_alone(self):
        lot = lot_with(gauges=(), prices=(9, 1))
        self.assertEqual(all_tests(lot, lot.start()), [("measure", 0), ("measure", 1), ("measure", 2)])

    def test_neither(self):
        lot = lot_with(gauges=())
        self.assertEqual(all_tests(lot, lot.start()), [])

    def test_several_gauges_for_one_part(self):
        lot = Lot(((4, 7),), ((5, 8),), (0, 0), (5, 6, 7, 8), (1, 1))
        found = [("gauge", 0, 5), ("gauge", 0, 6), ("gauge", 0, 7), ("gauge", 1, 6), ("gauge", 1, 7), ("gauge", 1, 8),
                 ("measure", 0), ("measure", 1)]
        self.assertEqual(all_tests(lot, lot.start()), found)

    def test_sizes_are_ordered_as_integers(self):
        lot = Lot(((8, 11),), ((1, 1),), (0, 0), (9, 10, 11), (1, None))
        self.assertEqual(all_tests(lot, lot.start()), [("gauge", 0, 9), ("gauge", 0, 10), ("gauge", 0, 11)])

    def test_gauges_at_the_edges_of_a_range(self):
        for size, found in [(3, []), (4, []), (5, [("gauge", 0, 5)]), (6, [("gauge", 0, 6)]), (7, [])]:
            lot = Lot(((4, 6),), ((20, 20),), (0, 0), (size,), (1, None))
            self.assertEqual(all_tests(lot, lot.start()), found)

    def test_gauges_at_the_edges_of_the_range_in_the_state(self):
        lot = Lot(((4, 7),), ((20, 20),), (0, 0), (5, 6, 7), (1, 1))
        cases = [((4, 7), [5, 6, 7]), ((4, 6), [5, 6]), ((5, 7), [6, 7]), ((5, 6), [6]), ((6, 7), [7])]
        for span, sizes in cases:
            found = [("gauge", 0, size) for size in sizes] + [("measure", 0)]
            self.assertEqual(all_tests(lot, (span, (20, 20))), found)

    def test_a_single_size_is_not_tested(self):
        lot = lot_with(**MEASURED)
        self.assertEqual(all_tests(lot, ((4, 4), (7, 7), (9, 9))), [])
        self.assertEqual(all_tests(lot, ((5, 5), (6, 7), (8, 8))), [("gauge", 1, 7), ("measure", 1)])

    def test_settled_states_have_tests_too(self):
        lot = lot_with(gap=(-9, 9))
        self.assertEqual(len(all_tests(lot, lot.start())), 3)

    def test_all_states_of_some_lots(self):
        for gauges, prices in product([(), (4,), (6, 8), (4, 5, 7, 9)], [(2, None), (1, 9)]):
            lot = lot_with(pins=((3, 6), (5, 5)), bores=((6, 8), (9, 9)), gauges=gauges, prices=prices)
            for state in all_states(lot):
                self.assertEqual(all_tests(lot, state), slow_tests(lot, state))


class Results(unittest.TestCase):

    def test_a_gauge_has_two(self):
        lot = lot_with()
        self.assertEqual(results(lot, lot.start(), ("gauge", 0, 5)),
                         [((4, 4), (6, 7), (8, 9)), ((5, 5), (6, 7), (8, 9))])
        self.assertEqual(results(lot, lot.start(), ("gauge", 1, 7)),
                         [((4, 5), (6, 6), (8, 9)), ((4, 5), (7, 7), (8, 9))])
        self.assertEqual(results(lot, lot.start(), ("gauge", 2, 9)),
                         [((4, 5), (6, 7), (8, 8)), ((4, 5), (6, 7), (9, 9))])

    def test_a_gauge_divides_the_range_just_before_its_size(self):
        lot = Lot(((4, 7),), ((20, 20),), (0, 0), (5, 6, 7), (1, None))
        cases = {5: [(4, 4), (5, 7)], 6: [(4, 5), (6, 7)], 7: [(4, 6), (7, 7)]}
        for size, spans in cases.items():
            found = [(span, (20, 20)) for span in spans]
            self.assertEqual(results(lot, lot.start(), ("gauge", 0, size)), found)

    def test_a_gauge_in_a_smaller_state(self):
        lot = Lot(((4, 7),), ((20, 20),), (0, 0), (5, 6, 7), (1, None))
        self.assertEqual(results(lot, ((5, 6), (20, 20)), ("gauge", 0, 6)), [((5, 5), (20, 20)), ((6, 6), (20, 20))])

    def test_a_measure_has_one_for_each_size(self):
        lot = Lot(((5, 5),), ((0, 3),), (0, 0), (), (1, 1))
        self.assertEqual(results(lot, lot.start(), ("measure", 1)), [((5, 5), (size, size)) for size in range(4)])
        self.assertEqual(results(lot, ((5, 5), (1, 3)), ("measure", 1)), [((5, 5), (size, size)) for size in (1, 2, 3)])
        self.assertEqual(results(lot, ((5, 5), (2, 3)), ("measure", 1)), [((5, 5), (2, 2)), ((5, 5), (3, 3))])

    def test_the_greatest_sizes(self):
        lot = Lot(((27, 30),), ((30, 30),), (0, 0), (30,), (1, 1))
        self.assertEqual(results(lot, lot.start(), ("gauge", 0, 30)), [((27, 29), (30, 30)), ((30, 30), (30, 30))])
        self.assertEqual(len(results(lot, lot.start(), ("measure", 0))), 4)

    def test_all_states_of_some_lots(self):
        lot = lot_with(pins=((3, 6), (5, 5)), bores=((6, 8), (9, 9)), gauges=(4, 5, 7, 9), prices=(1, 2))
        for state in all_states(lot):
            for test in all_tests(lot, state):
                self.assertEqual(results(lot, state, test), slow_results(state, test))


class Refusals(unittest.TestCase):

    def refused(self, lot, state, tests):
        for test in tests:
            with self.subTest(test=test), self.assertRaises(BadTest):
                results(lot, state, test)

    def test_not_a_test_that_is_possible(self):
        for prices in ((1, None), (1, 3)):
            lot = lot_with(prices=prices)
            self.refused(lot, lot.start(), WRONG_TESTS + STRANGE)

    def test_no_measures(self):
        lot = lot_with()
        self.refused(lot, lot.start(), [("measure", 0), ("measure", 1), ("measure", 2)])

    def test_no_gauge_of_this_size(self):
        lot = lot_with(gauges=(7,))
        self.refused(lot, lot.start(), [("gauge", 0, 5), ("gauge", 2, 9)])

    def test_possible_at_the_start_but_no_more(self):
        lot = lot_with(prices=(1, 3))
        self.refused(lot, ((4, 4), (7, 7), (8, 8)), all_tests(lot, lot.start()))

    def test_every_test_that_is_not_listed(self):
        lot = lot_with(gauges=(5, 6, 9), prices=(1, 1))
        words = [("gauge", part, size) for part, size in product(range(-4, 5), range(0, 32))]
        words += [("measure", part) for part in range(-4, 5)]
        for state in all_states(lot):
            listed = all_tests(lot, state)
            self.refused(lot, state, [test for test in words if test not in listed])

    def test_booleans_for_a_part_and_a_size(self):
        lot = Lot(((0, 1),), ((0, 1),), (0, 0), (1,), (1, 1))
        self.assertEqual(len(all_tests(lot, lot.start())), 4)
        self.refused(lot, lot.start(), [("gauge", False, 1), ("gauge", True, 1), ("gauge", 0, True),
                                        ("measure", False), ("measure", True)])

    def test_not_a_lot(self):
        for lot in STRANGE + [lot_with().start()]:
            for call in (lambda: all_tests(lot, None), lambda: results(lot, None, None)):
                with self.subTest(lot=lot), self.assertRaises(BadLot) as caught:
                    call()
                self.assertIsNone(caught.exception.part)

    def test_not_a_state_of_the_lot(self):
        lot = lot_with()
        wrong = [((4, 5), (6, 7)), ((4, 6), (6, 7), (8, 9)), ((4, 5), (6, 7), (9, 8)), [(4, 5), (6, 7), (8, 9)],
                 ((4, 5), [6, 7], (8, 9))]
        for state in wrong + STRANGE:
            with self.subTest(state=state):
                self.assertRaises(BadState, all_tests, lot, state)
                self.assertRaises(BadState, results, lot, state, ("gauge", 0, 5))

    def test_the_error_documented_first(self):
        self.assertRaises(BadState, results, lot_with(), None, None)
        self.assertRaises(BadTest, results, lot_with(), lot_with().start(), None)


if __name__ == "__main__":
    unittest.main()
