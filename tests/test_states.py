"""Point 3: states, pairs that surely fit or can fit, and verdicts."""

import unittest
from itertools import product

from surefit.errors import BadLot, BadMany, BadState
from surefit.lots import Lot, hoped_pairs, sure_pairs, verdict
from tests.samples import STRANGE, WRONG_MANY, all_states, first_longest, fitting, lot_with, slow_verdict

WRONG_STATES = [
    (), ((4, 5),), ((4, 5), (6, 7)), ((4, 5), (6, 7), (8, 9), (8, 9)),
    [(4, 5), (6, 7), (8, 9)], ([4, 5], (6, 7), (8, 9)), ((4, 5), (6, 7), [8, 9]), ((4, 5), (6, 7), "89"),
    ((3, 5), (6, 7), (8, 9)), ((4, 6), (6, 7), (8, 9)), ((5, 4), (6, 7), (8, 9)), ((4, 5), (7, 6), (8, 9)),
    ((4, 5), (5, 6), (8, 9)), ((4, 5), (6, 7), (9, 10)), ((4, 5), (6, 7), (10, 10)), ((4, 5), (6, 7), (7, 7)),
    ((4,), (6, 7), (8, 9)), ((4, 5, 5), (6, 7), (8, 9)), (4, 6, 8), ((4, 5), (6, 7), None), ((4, 5), (6, 7), (8, None)),
    ((4, 5), (6, 7), ("8", "9")), {(4, 5): 0, (6, 7): 0, (8, 9): 0}, ((6, 7), (8, 9), (4, 5)),
]


class Pairs(unittest.TestCase):

    def pairs(self, lot, state):
        return [sure_pairs(lot, state), hoped_pairs(lot, state)]

    def test_surely_for_all_sizes_and_can_for_some(self):
        lot = Lot(((4, 5),), ((7, 9),), (2, 5), (), (1, None))
        self.assertEqual(self.pairs(lot, lot.start()), [[(0, 1)], [(0, 1)]])

    def test_the_least_difference_is_just_beyond_the_gap(self):
        lot = Lot(((4, 5),), ((7, 9),), (3, 5), (), (1, None))
        self.assertEqual(self.pairs(lot, lot.start()), [[], [(0, 1)]])
        self.assertEqual(self.pairs(lot, ((4, 4), (7, 9))), [[(0, 1)], [(0, 1)]])

    def test_the_greatest_difference_is_just_beyond_the_gap(self):
        lot = Lot(((4, 5),), ((7, 9),), (2, 4), (), (1, None))
        self.assertEqual(self.pairs(lot, lot.start()), [[], [(0, 1)]])
        self.assertEqual(self.pairs(lot, ((5, 5), (7, 9))), [[(0, 1)], [(0, 1)]])

    def test_only_the_outermost_sizes_fit(self):
        for gap in ((5, 9), (-9, 2)):
            lot = Lot(((4, 5),), ((7, 9),), gap, (), (1, None))
            self.assertEqual(self.pairs(lot, lot.start()), [[], [(0, 1)]])

    def test_none_fits_just_beyond_the_gap(self):
        for gap in ((6, 9), (-9, 1)):
            lot = Lot(((4, 5),), ((7, 9),), gap, (), (1, None))
            self.assertEqual(self.pairs(lot, lot.start()), [[], []])

    def test_a_gap_within_the_differences(self):
        lot = Lot(((4, 5),), ((7, 9),), (3, 3), (), (1, None))
        self.assertEqual(self.pairs(lot, lot.start()), [[], [(0, 1)]])

    def test_a_gap_below_zero(self):
        lot = Lot(((9, 9),), ((2, 2), (0, 0), (1, 1)), (-9, -8), (), (1, None))
        self.assertEqual(self.pairs(lot, lot.start()), [[(0, 2)], [(0, 2)]])

    def test_bores_are_numbered_on_behind_the_pins(self):
        lot = Lot(((1, 1), (5, 5), (9, 9)), ((9, 9), (1, 1)), (0, 0), (), (1, None))
        self.assertEqual(sure_pairs(lot, lot.start()), [(0, 4), (2, 3)])

    def test_the_first_of_several_lists(self):
        lot = Lot(((1, 1),) * 3, ((1, 1),) * 3, (0, 0), (), (1, None))
        self.assertEqual(self.pairs(lot, lot.start()), [[(0, 3), (1, 4), (2, 5)]] * 2)

    def test_the_first_of_several_lists_with_fewer_bores_or_pins(self):
        lot = Lot(((1, 1),) * 3, ((1, 1),), (0, 0), (), (1, None))
        self.assertEqual(sure_pairs(lot, lot.start()), [(0, 3)])
        lot = Lot(((1, 1),), ((2, 2), (1, 1), (1, 1)), (0, 0), (), (1, None))
        self.assertEqual(sure_pairs(lot, lot.start()), [(0, 2)])

    def test_a_longer_list_comes_before_one_with_an_earlier_pair(self):
        # Pin 0 fits both bores, pin 1 the first one alone.
        lot = Lot(((2, 2), (1, 1)), ((2, 2), (4, 4)), (0, 2), (), (1, None))
        self.assertEqual(sure_pairs(lot, lot.start()), [(0, 3), (1, 2)])

    def test_compared_item_by_item(self):
        # Of two pairs: (0, 3) with (1, 4) or (2, 4), or (1, 3) with (2, 4).
        lot = Lot(((1, 1), (2, 2), (3, 3)), ((2, 2), (4, 4)), (0, 2), (), (1, None))
        self.assertEqual(fitting(lot, lot.start(), all), [(0, 3), (1, 3), (1, 4), (2, 4)])
        self.assertEqual(sure_pairs(lot, lot.start()), [(0, 3), (1, 4)])

    def test_three_pairs_that_the_first_pair_would_prevent(self):
        # Pin 0 fits all bores, pin 1 the first two, pin 2 the first one alone.
        lot = Lot(((5, 5), (4, 4), (3, 3)), ((5, 5), (6, 6), (7, 7)), (0, 2), (), (1, None))
        self.assertEqual(sure_pairs(lot, lot.start()), [(0, 5), (1, 4), (2, 3)])

    def test_sure_pairs_need_not_be_the_first_hoped_ones(self):
        lot = Lot(((4, 5), (4, 4)), ((6, 7), (7, 7)), (3, 3), (), (1, None))
        self.assertEqual(self.pairs(lot, lot.start()), [[(1, 3)], [(0, 2), (1, 3)]])
        self.assertEqual(self.pairs(lot, ((4, 4), (4, 4), (6, 6), (7, 7))), [[(0, 3)], [(0, 3)]])

    def test_all_states_of_a_lot(self):
        lot = lot_with(pins=((4, 6), (5, 5)), bores=((6, 8), (7, 8)))
        for state in all_states(lot):
            self.assertEqual(sure_pairs(lot, state), first_longest(fitting(lot, state, all)))
            self.assertEqual(hoped_pairs(lot, state), first_longest(fitting(lot, state, any)))

    def test_many_lots_with_three_pins_and_bores(self):
        spans = [(2, 2), (2, 4), (3, 4)]
        for gap, pins, bores in product([(0, 0), (0, 1), (-1, 2)], product(spans, repeat=3), product(spans, repeat=3)):
            lot = Lot(pins, bores, gap, (), (1, None))
            self.assertEqual(sure_pairs(lot, lot.start()), first_longest(fitting(lot, lot.start(), all)))
            self.assertEqual(hoped_pairs(lot, lot.start()), first_longest(fitting(lot, lot.start(), any)))


class Verdicts(unittest.TestCase):

    def test_true_false_and_none_for_each_number(self):
        sure, hoped, shut = ((4, 4), (6, 6)), ((4, 5), (6, 6)), ((4, 4), (9, 9))
        cases = [
            ([sure, sure, sure], [True, True, True]),
            ([sure, sure, hoped], [True, True, None]),
            ([sure, hoped, hoped], [True, None, None]),
            ([hoped, hoped, hoped], [None, None, None]),
            ([sure, sure, shut], [True, True, False]),
            ([sure, hoped, shut], [True, None, False]),
            ([hoped, hoped, shut], [None, None, False]),
            ([sure, shut, shut], [True, False, False]),
            ([hoped, shut, shut], [None, False, False]),
            ([shut, shut, shut], [False, False, False]),
        ]
        # Each pin fits the bore beside it at the most, for the others are too far away.
        for pairs, found in cases:
            pins = tuple((low + 10 * at, high + 10 * at) for at, ((low, high), _) in enumerate(pairs))
            bores = tuple((low + 10 * at, high + 10 * at) for at, (_, (low, high)) in enumerate(pairs))
            lot = Lot(pins, bores, (2, 2), (), (1, None))
            self.assertEqual([verdict(lot, lot.start(), many) for many in (1, 2, 3)], found)

    def test_more_pairs_than_pins_or_bores(self):
        lot = Lot(((4, 4),), ((6, 6),) * 3, (2, 2), (), (1, None))
        self.assertEqual([verdict(lot, lot.start(), many) for many in (1, 2, 3)], [True, False, False])
        lot = Lot(((4, 4),) * 3, ((6, 6),) * 2, (2, 2), (), (1, None))
        self.assertEqual([verdict(lot, lot.start(), many) for many in (1, 2, 3)], [True, True, False])

    def test_pairs_with_a_common_part_do_not_count_twice(self):
        lot = Lot(((4, 4), (4, 4)), ((6, 6), (9, 9)), (2, 2), (), (1, None))
        self.assertEqual([verdict(lot, lot.start(), many) for many in (1, 2)], [True, False])

    def test_not_settled_although_the_pin_fits_one_of_two_bores(self):
        # One of the two bores fits whatever the pin is, but neither pair surely fits, and both can.
        lot = Lot(((4, 5),), ((6, 6), (7, 7)), (2, 2), (), (1, None))
        self.assertIs(verdict(lot, lot.start(), 1), None)

    def test_all_states_of_a_lot(self):
        lot = lot_with(pins=((4, 6), (5, 5)), bores=((6, 8), (7, 8)))
        for state in all_states(lot):
            for many in (1, 2, 3):
                self.assertIs(verdict(lot, state, many), slow_verdict(lot, state, many))


class Refusals(unittest.TestCase):

    def test_not_a_lot(self):
        for lot in STRANGE + [lot_with().start(), Lot]:
            for call in (lambda: sure_pairs(lot, None), lambda: hoped_pairs(lot, None), lambda: verdict(lot, None, 0)):
                with self.subTest(lot=lot), self.assertRaises(BadLot) as caught:
                    call()
                self.assertIsNone(caught.exception.part)

    def test_not_a_state_of_the_lot(self):
        lot = lot_with()
        for state in WRONG_STATES + STRANGE:
            with self.subTest(state=state):
                self.assertRaises(BadState, sure_pairs, lot, state)
                self.assertRaises(BadState, hoped_pairs, lot, state)
                self.assertRaises(BadState, verdict, lot, state, 1)

    def test_booleans_in_a_state(self):
        lot = lot_with(pins=((0, 1),), bores=((0, 1),))
        self.assertEqual(hoped_pairs(lot, ((0, 1), (1, 1))), [])
        for state in (((False, 1), (1, 1)), ((0, True), (1, 1)), ((0, 1), (True, True)), ((0, 1), True), (True, False)):
            with self.subTest(state=state):
                self.assertRaises(BadState, sure_pairs, lot, state)

    def test_each_state_of_the_lot_is_taken(self):
        lot = lot_with(pins=((0, 3),), bores=((27, 30),))
        states = all_states(lot)
        self.assertEqual(len(states), 100)
        for state in states:
            self.assertEqual(sure_pairs(lot, state), [])

    def test_not_a_number_of_pairs(self):
        lot = lot_with()
        for many in WRONG_MANY:
            with self.subTest(many=many):
                self.assertRaises(BadMany, verdict, lot, lot.start(), many)

    def test_the_error_documented_first(self):
        self.assertRaises(BadLot, verdict, None, None, None)
        self.assertRaises(BadState, verdict, lot_with(), None, None)
        self.assertRaises(BadState, verdict, lot_with(), WRONG_STATES[0], 0)


if __name__ == "__main__":
    unittest.main()
