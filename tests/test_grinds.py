"""Point 8: grinding."""

import unittest
from itertools import product

from surefit.errors import BadFee, BadLot, BadMany, BadPosition, TooLarge
from surefit.grinds import Make, Unmade, make, make_cost, moves
from surefit.lots import Lot
from surefit.plans import Plan, Stuck, plan_cost
from surefit.probes import all_tests
from tests.samples import (STRANGE, WRONG_MANY, changed_levels, changed_trees, first_longest, fitting, greatest_cost,
                           lot_with, nested_lists, slow_least, slow_levels, slow_price, slow_results, slow_tests,
                           slow_tree_cost)

WRONG_FEES = [0, 10, -1, 10 ** 30, True, False, None, "1", (1,), [1], {}, object()]

SHAPES = [
    (((4, 6),), ((6, 8),)),
    (((4, 7),), ((7, 7),)),
    (((4, 5),), ((6, 7), (7, 7))),
    (((4, 5), (5, 6)), ((7, 7),)),
    (((4, 4), (5, 5)), ((5, 6), (6, 6))),
    (((4, 4), (5, 5)), ((5, 5), (9, 9), (4, 4))),
]
GAPS = [(2, 2), (3, 4), (1, 3)]
GAUGES = [(), (5, 7)]
PRICES = [(1, None), (2, 3)]
FEES = [1, 4]

START = lot_with().start()
TIGHT = Lot(((4, 5),), ((6, 6),), (2, 2), (5,), (1, None))
FINE = (((4, 5), (6, 6)), (0, 0))
GRIND = (("gauge", 0, 5), (None, (("grind", 0), (None,))))
THICK, WIDE, THIN = (((5, 5), (6, 6)), (0, 0)), (((4, 5), (7, 7)), (0, 1)), (((3, 4), (6, 6)), (1, 0))
LEVELS = {FINE: 4, THICK: 3, WIDE: 1, THIN: 1}


def lots():
    for (pins, bores), gap, gauges, prices in product(SHAPES, GAPS, GAUGES, PRICES):
        yield Lot(pins, bores, gap, gauges, prices)


def ground(lot, position, part):
    ranges, counts = [list(row) for row in position]
    by = 1 if part >= len(lot.pins) else -1
    ranges[part] = (ranges[part][0] + by, ranges[part][1] + by)
    counts[part] += 1
    return (tuple(ranges), tuple(counts))


def slow_moves(lot, position):
    return slow_tests(lot, position[0]) + [("grind", part) for part in range(len(lot)) if position[1][part] in (0, 1)]


def slow_after(lot, position, move):
    if move[0] == "grind":
        return [ground(lot, position, move[1])]
    return [(ranges, position[1]) for ranges in slow_results(position[0], move)]


def rules(lot, many, fee):
    """What the slow answers go by: when a position is made, and the moves with their prices and results."""
    return (lambda place: len(first_longest(fitting(lot, place[0], all))) >= many, lambda place: slow_moves(lot, place),
            lambda move: fee if move[0] == "grind" else slow_price(lot, move),
            lambda place, move: slow_after(lot, place, move))


def slow_make_cost(lot, position, many, fee):
    limit = greatest_cost(lot, position[0]) + 2 * len(lot) * fee
    return slow_least(position, limit, *rules(lot, many, fee))


def fresh(lot):
    return (lot.start(), (0,) * len(lot))


class Costs(unittest.TestCase):

    def test_the_example(self):
        self.assertEqual([make_cost(TIGHT, FINE, 1, fee) for fee in (1, 3)], [2, 4])
        self.assertIsNone(make_cost(TIGHT, FINE, 2, 1))

    def test_many_lots(self):
        found = {}
        for lot, fee in product(lots(), FEES):
            for many in (1, 2):
                if len(lot) == 5 and lot.prices == (2, 3):
                    continue
                cost = make_cost(lot, fresh(lot), many, fee)
                self.assertEqual(cost, slow_make_cost(lot, fresh(lot), many, fee))
                found.setdefault(many, []).append(cost)
        self.assertTrue({None, 0, 1, 4, 5, 7} < set(found[1]))
        self.assertTrue({None, 0, 3, 4, 5, 16} < set(found[2]))

    def test_three_pairs(self):
        # Each pin needs the bore beside it, and a grind for each size that is missing.
        cases = [((6, 6, 6), 0), ((5, 6, 6), 1), ((4, 6, 5), 3), ((3, 5, 4), 6), ((2, 2, 2), 12), ((7, 6, 6), None),
                 ((1, 6, 6), None)]
        for widths, grinds in cases:
            pins = ((4, 4), (14, 14), (24, 24))
            bores = tuple((width + 10 * at,) * 2 for at, width in enumerate(widths))
            lot = Lot(pins, bores, (2, 2), (), (1, None))
            for fee in (1, 9):
                cost = None if grinds is None else grinds * fee
                self.assertEqual(make_cost(lot, fresh(lot), 3, fee), cost)
                found = make(lot, fresh(lot), 3, fee)
                self.assertIs(found.__class__, Unmade if grinds is None else Make)
                self.assertIs(found.shows(lot, fresh(lot), 3, fee), True)

    def test_three_pairs_of_which_others_can_be_made(self):
        lot = Lot(((4, 4), (5, 5), (6, 6)), ((5, 5), (6, 6), (7, 7)), (2, 3), (), (1, None))
        for many in (1, 2, 3):
            cost = make_cost(lot, fresh(lot), many, 2)
            self.assertEqual(cost, slow_make_cost(lot, fresh(lot), many, 2))
            self.assertEqual(cost, [0, 0, 6][many - 1])

    def test_all_positions_of_a_lot(self):
        lot = Lot(((4, 6),), ((7, 8),), (3, 3), (5, 8), (1, 2))
        for position in self.positions(lot):
            self.assertEqual(make_cost(lot, position, 1, 2), slow_make_cost(lot, position, 1, 2))

    def positions(self, lot):
        """All positions to which one can come from the start."""
        found, seen = [fresh(lot)], []
        while found:
            position = found.pop()
            if position not in seen:
                seen.append(position)
                found += [after for move in slow_moves(lot, position) for after in slow_after(lot, position, move)]
        return seen

    def test_grinding_and_testing(self):
        # Two grinds for certain, or a test of the pin before.
        for lot, fee, cost in [(TIGHT, 1, 2), (TIGHT, 9, 10), (Lot(((4, 5),), ((6, 6),), (1, 2), (5,), (9, None)), 1, 0),
                               (Lot(((4, 5),), ((5, 5),), (1, 2), (5,), (9, None)), 2, 2),
                               (Lot(((4, 5),), ((5, 5),), (1, 1), (5,), (9, 9)), 2, 11)]:
            self.assertEqual(make_cost(lot, fresh(lot), 1, fee), cost)

    def test_grinding_brings_a_range_to_a_gauge(self):
        # At first the gauge tells nothing of the pin; when this was ground once, it does.
        lot = Lot(((5, 6),), ((6, 6),), (3, 3), (5,), (4, None))
        self.assertEqual(moves(lot, fresh(lot)), [("grind", 0), ("grind", 1)])
        self.assertEqual(make_cost(lot, fresh(lot), 1, 1), 7)
        # Grinding the bore does not help here, since the pin cannot be thin enough.
        lot = Lot(((5, 6),), ((8, 8),), (3, 3), (5,), (4, None))
        self.assertIsNone(make_cost(lot, fresh(lot), 1, 1))

    def test_a_pair_that_can_not_fit_is_made_to_fit(self):
        lot = Lot(((5, 5),), ((5, 5),), (2, 2), (), (1, None))
        self.assertEqual([plan_cost(lot, lot.start(), 1), make_cost(lot, fresh(lot), 1, 3)], [0, 6])
        lot = Lot(((5, 5),), ((5, 5),), (-2, -1), (), (1, None))
        self.assertIsNone(make_cost(lot, fresh(lot), 1, 3))

    def test_a_made_position(self):
        self.assertEqual(make_cost(lot_with(gap=(-9, 9)), (START, (0, 0, 0)), 1, 9), 0)
        self.assertEqual(make_cost(TIGHT, (((4, 4), (6, 6)), (0, 0)), 1, 9), 0)
        self.assertEqual(make_cost(TIGHT, (((4, 4), (6, 6)), (1, 0)), 1, 9), 0)

    def test_each_part_can_be_ground_twice(self):
        for difference, cost in [(1, 1), (2, 2), (3, 3), (4, 4), (5, None)]:
            lot = Lot(((9, 9),), ((9 - difference, 9 - difference),), (0, 0), (), (1, None))
            self.assertEqual(make_cost(lot, fresh(lot), 1, 1), cost)

    def test_what_was_ground_before_counts(self):
        lot = Lot(((9, 9),), ((6, 6),), (0, 0), (), (1, None))
        cases = {(0, 0): 3, (1, 0): 2, (0, 1): 2, (2, 0): 1, (0, 2): 1, (1, 1): 1, (2, 1): 0, (1, 2): 0, (2, 2): None}
        for (pin, bore), cost in cases.items():
            position = (((9 - pin, 9 - pin), (6 + bore, 6 + bore)), (pin, bore))
            self.assertEqual(make_cost(lot, position, 1, 1), cost)

    def test_the_fees(self):
        for fee in range(1, 10):
            self.assertEqual(make_cost(TIGHT, FINE, 1, fee), 1 + fee)
            self.assertEqual(make_cost(TIGHT, THICK, 1, fee), fee)


class Moves(unittest.TestCase):

    def test_the_example(self):
        self.assertEqual(moves(TIGHT, FINE), [("gauge", 0, 5), ("grind", 0), ("grind", 1)])

    def test_tests_come_first(self):
        lot = lot_with(prices=(1, 3))
        grinds = [("grind", part) for part in range(3)]
        self.assertEqual(moves(lot, (START, (0, 0, 0))), all_tests(lot, START) + grinds)
        self.assertEqual(moves(lot, (((4, 4), (6, 6), (8, 9)), (0, 0, 0))), [("gauge", 2, 9), ("measure", 2)] + grinds)

    def test_parts_that_were_ground_twice(self):
        lot = Lot(((4, 4),), ((6, 6), (8, 8)), (3, 3), (), (1, None))
        for counts in product(range(3), repeat=3):
            ranges = tuple((size, size) for size in (4 - counts[0], 6 + counts[1], 8 + counts[2]))
            left = [("grind", part) for part in range(3) if counts[part] < 2]
            self.assertEqual(moves(lot, (ranges, counts)), left)

    def test_tests_of_the_ranges_as_they_are_now(self):
        lot = Lot(((5, 6),), ((6, 7),), (2, 2), (5, 8), (1, None))
        self.assertEqual(moves(lot, (((5, 6), (6, 7)), (0, 0))), [("grind", 0), ("grind", 1)])
        self.assertEqual(moves(lot, (((4, 5), (7, 8)), (1, 1))),
                         [("gauge", 0, 5), ("gauge", 1, 8), ("grind", 0), ("grind", 1)])
        self.assertEqual(moves(lot, (((3, 4), (8, 9)), (2, 2))), [])
        self.assertEqual(moves(lot, (((4, 4), (7, 8)), (1, 1))), [("gauge", 1, 8), ("grind", 0), ("grind", 1)])

    def test_ranges_beyond_the_sizes(self):
        lot = Lot(((0, 1),), ((29, 30),), (9, 9), (1, 30), (1, 1))
        self.assertEqual(moves(lot, (((-2, -1), (31, 32)), (2, 2))), [("measure", 0), ("measure", 1)])
        self.assertEqual(moves(lot, (((-1, 0), (30, 31)), (1, 1))),
                         [("measure", 0), ("measure", 1), ("grind", 0), ("grind", 1)])

    def test_a_made_position_has_moves_too(self):
        self.assertEqual(moves(TIGHT, (((4, 4), (6, 6)), (0, 0))), [("grind", 0), ("grind", 1)])

    def test_many_positions(self):
        for lot in lots():
            position = fresh(lot)
            for part in list(range(len(lot))) * 2:
                self.assertEqual(moves(lot, position), slow_moves(lot, position))
                position = ground(lot, position, part)
            self.assertEqual(moves(lot, position), slow_moves(lot, position))

    def test_every_list_is_new(self):
        found = moves(TIGHT, FINE)
        found.clear()
        self.assertEqual(len(moves(TIGHT, FINE)), 3)
        self.assertIs(moves(TIGHT, FINE).__class__, list)


class Makes(unittest.TestCase):

    def test_many_lots(self):
        for lot, fee in product(lots(), FEES):
            for many in (1, 2):
                position = fresh(lot)
                found, cost = make(lot, position, many, fee), make_cost(lot, position, many, fee)
                self.assertIs(found.__class__, Unmade if cost is None else Make)
                self.assertIs(found.shows(lot, position, many, fee), True)
                if cost is not None and len(lot) < 5:
                    self.assertEqual(found.bound, cost)
                    self.assertEqual(slow_tree_cost(position, found.tree, *rules(lot, many, fee)), cost)
                    self.assertTrue(slow_levels(found.levels, position, cost, *rules(lot, many, fee)))

    def test_kinds_of_values(self):
        found = make(TIGHT, FINE, 1, 3)
        self.assertEqual([value.__class__ for value in (found.bound, found.tree, found.levels)], [int, tuple, dict])
        self.assertEqual([found.bound, found.tree], [4, GRIND])

    def test_a_made_position(self):
        found = make(TIGHT, (((4, 4), (6, 6)), (0, 0)), 1, 3)
        self.assertEqual([found.bound, found.tree], [0, None])
        self.assertTrue(found.shows(TIGHT, (((4, 4), (6, 6)), (0, 0)), 1, 3))

    def test_one_for_something_else_shows_nothing(self):
        found = make(TIGHT, FINE, 1, 3)
        self.assertFalse(found.shows(TIGHT, THICK, 1, 3))
        self.assertFalse(found.shows(TIGHT, FINE, 2, 3))
        self.assertFalse(found.shows(TIGHT, FINE, 1, 2))
        self.assertFalse(found.shows(TIGHT, FINE, 1, 4))


class ShowsOfMakes(unittest.TestCase):

    def shows(self, bound, tree, levels, lot=TIGHT, position=FINE, many=1, fee=3):
        return Make(bound, tree, levels).shows(lot, position, many, fee)

    def test_by_hand(self):
        self.assertIs(self.shows(4, GRIND, LEVELS), True)
        self.assertIs(self.shows(4, GRIND, dict(reversed(list(LEVELS.items())))), True)

    def test_another_bound(self):
        for bound in (-1, 0, 3, 5, True, False, None, "4", (4,)):
            self.assertIs(self.shows(bound, GRIND, LEVELS), False)

    def test_booleans_are_no_bounds(self):
        tree, levels = (("grind", 0), (None,)), {THICK: 1}
        self.assertIs(self.shows(1, tree, levels, position=THICK, fee=1), True)
        self.assertIs(self.shows(True, tree, levels, position=THICK, fee=1), False)

    def test_both_parts_can_be_ground(self):
        for part in (0, 1):
            tree = (("gauge", 0, 5), (None, (("grind", part), (None,))))
            self.assertIs(self.shows(4, tree, LEVELS), True)
        for move in [("grind", 2), ("grind", -1), ("grind",), ("grind", 0, 1), ("grind", False), ("grind", True),
                     ["grind", 0], ("Grind", 0), ("measure", 0), None, ()]:
            self.assertIs(self.shows(4, (("gauge", 0, 5), (None, (move, (None,)))), LEVELS), False)

    def test_a_dear_tree(self):
        # To grind first costs more: the pin that was thin already must be made up for by nothing.
        tree = (("grind", 0), ((("gauge", 0, 5), (None, None)),))
        self.assertIs(self.shows(4, tree, LEVELS), False)
        tree = (("gauge", 0, 5), (None, (("grind", 0), ((("grind", 1), (None,)),))))
        for bound in (4, 7):
            self.assertIs(self.shows(bound, tree, LEVELS), False)

    def test_results_of_a_grind(self):
        for branches in ((), (None, None), None, [None], (GRIND,), ((),)):
            self.assertIs(self.shows(4, (("gauge", 0, 5), (None, (("grind", 0), branches))), LEVELS), False)

    def test_changed_trees(self):
        seen = []
        for tree in changed_trees(GRIND, moves(TIGHT, FINE) + [("grind", 2), ("measure", 0), ("gauge", 1, 5)]):
            right = slow_tree_cost(FINE, tree, *rules(TIGHT, 1, 3)) == 4
            self.assertIs(self.shows(4, tree, LEVELS), right)
            seen.append(right)
        self.assertTrue(True in seen and False in seen)

    def test_lists_in_the_place_of_tuples(self):
        for tree in nested_lists(GRIND):
            self.assertIs(self.shows(4, tree, LEVELS), False)

    def test_a_tree_for_a_made_position(self):
        made = (((4, 4), (6, 6)), (0, 0))
        self.assertIs(self.shows(0, None, {}, position=made), True)
        self.assertIs(self.shows(3, (("grind", 0), (None,)), {}, position=made), False)
        self.assertIs(self.shows(0, (("grind", 0), (None,)), {}, position=made), False)

    def test_no_tree_for_one_that_is_not_made(self):
        for bound in (0, 4):
            self.assertIs(self.shows(bound, None, LEVELS), False)
        # Settled is not made: none fits here, but grinding helps.
        self.assertIs(self.shows(0, None, {}, position=THICK), False)

    def test_changed_levels(self):
        for levels in list(changed_levels(LEVELS)) + list(changed_levels(make(TIGHT, FINE, 1, 3).levels)):
            self.assertIs(self.shows(4, GRIND, levels), slow_levels(levels, FINE, 4, *rules(TIGHT, 1, 3)))

    def test_changed_levels_of_many_lots(self):
        seen = []
        for pins, bores in SHAPES[:5]:
            lot = Lot(pins, bores, (3, 4), (5, 7), (2, 3))
            found = make(lot, fresh(lot), 1, 3)
            self.assertGreater(found.bound, 0)
            for at, levels in enumerate(changed_levels(found.levels)):
                if at % 7 == 0:
                    right = slow_levels(levels, fresh(lot), found.bound, *rules(lot, 1, 3))
                    self.assertIs(self.shows(found.bound, found.tree, levels, lot=lot, position=fresh(lot)), right)
                    seen.append(right)
        self.assertTrue(True in seen and False in seen)

    def test_a_missing_level(self):
        for position in LEVELS:
            levels = {other: LEVELS[other] for other in LEVELS if other != position}
            self.assertIs(self.shows(4, GRIND, levels), False)

    def test_a_further_level(self):
        made = (((4, 4), (6, 6)), (0, 0))
        for level, right in [(-7, True), (0, True), (1, False)]:
            self.assertIs(self.shows(4, GRIND, {**LEVELS, made: level}), right)
        last = (((2, 3), (8, 8)), (2, 2))
        self.assertEqual(make_cost(TIGHT, last, 1, 3), None)
        # A gauge of 5 tells nothing of this pin, so no move is left, and nothing makes the level too high.
        self.assertIs(self.shows(4, GRIND, {**LEVELS, last: 99}), True)

    def test_a_level_of_a_position_that_needs_grinding_only(self):
        for level, right in [(2, False), (3, True), (4, False)]:
            self.assertIs(self.shows(4, GRIND, {**LEVELS, THICK: level}), right)

    def test_keys_that_are_no_positions(self):
        for key in [FINE[0], (FINE[0], (0, 0, 0)), (FINE[0], (0,)), (FINE[0], (0, 3)), (FINE[0], (1, 0)),
                    (FINE[0][:1], (0, 0)), (((4, 5), (6, 7)), (0, 0)), (FINE[0], (0, 0), ()), None, 0, "position"]:
            for level in (-1, 0, 1):
                self.assertIs(self.shows(4, GRIND, {**LEVELS, key: level}), False)

    def test_levels_that_are_no_integers(self):
        for level in (True, False, None, "1"):
            self.assertIs(self.shows(4, GRIND, {**LEVELS, WIDE: level}), False)

    def test_booleans_in_keys(self):
        levels = {position: LEVELS[position] for position in LEVELS if position != WIDE}
        self.assertIs(self.shows(4, GRIND, {**levels, (WIDE[0], (0, 1)): 1}), True)
        self.assertIs(self.shows(4, GRIND, {**levels, (WIDE[0], (0, True)): 1}), False)
        self.assertIs(self.shows(4, GRIND, {**levels, (WIDE[0], (False, 1)): 1}), False)

    def test_the_current_attributes_count(self):
        found = make(TIGHT, FINE, 1, 3)
        found.levels.clear()
        self.assertFalse(found.shows(TIGHT, FINE, 1, 3))
        found.levels = LEVELS
        self.assertTrue(found.shows(TIGHT, FINE, 1, 3))
        found.bound = 5
        self.assertFalse(found.shows(TIGHT, FINE, 1, 3))
        found.bound, found.levels = 4, list(LEVELS)
        self.assertFalse(found.shows(TIGHT, FINE, 1, 3))


class Unmades(unittest.TestCase):

    LOT = Lot(((4, 5),), ((8, 8),), (2, 2), (5,), (1, None))
    LAST = (((2, 3), (10, 10)), (2, 2))

    def shows(self, spots, lot=LOT, position=LAST, many=1, fee=3):
        return Unmade(spots).shows(lot, position, many, fee)

    def test_its_positions(self):
        for lot, many in [(TIGHT, 2), (TIGHT, 3), (self.LOT, 1)]:
            found = make(lot, fresh(lot), many, 2)
            self.assertEqual([found.__class__, found.spots.__class__], [Unmade, list])
            self.assertIn(fresh(lot), found.spots)
            is_made, steps, _, after = rules(lot, many, 2)
            for spot in found.spots:
                self.assertFalse(is_made(spot))
                for move in steps(spot):
                    self.assertTrue([other for other in after(spot, move) if other in found.spots])

    def test_it_can_be_iterated_over(self):
        found = Unmade([FINE, THICK, FINE])
        self.assertEqual([list(found), list(found)], [[FINE, THICK, FINE]] * 2)
        self.assertEqual(list(make(TIGHT, FINE, 2, 1)), make(TIGHT, FINE, 2, 1).spots)

    def test_by_hand(self):
        self.assertIs(self.shows([self.LAST]), True)
        self.assertIs(self.shows([self.LAST, self.LAST]), True)
        before = (((2, 3), (9, 9)), (2, 1))
        self.assertIs(self.shows([before], position=before), False)
        self.assertIs(self.shows([before, self.LAST], position=before), True)
        self.assertIs(self.shows([self.LAST], position=before), False)
        self.assertIs(self.shows([], position=before), False)

    def test_every_move_needs_a_result_in_the_list(self):
        spots = make(self.LOT, fresh(self.LOT), 1, 1).spots
        is_made, steps, _, after = rules(self.LOT, 1, 1)
        seen = []
        for spot in spots:
            rest = [other for other in spots if other != spot]
            right = spot != fresh(self.LOT) and all(
                any(place in rest for place in after(other, move)) for other in rest for move in steps(other))
            self.assertIs(self.shows(rest, position=fresh(self.LOT)), right)
            seen.append(right)
        self.assertTrue(True in seen and False in seen)

    def test_a_made_position(self):
        lot = Lot(((4, 4),), ((6, 6),), (2, 2), (), (1, None))
        made = fresh(lot)
        spots = [(((4 - pin,) * 2, (6 + bore,) * 2), (pin, bore)) for pin, bore in product(range(3), repeat=2)]
        self.assertIs(self.shows(spots, lot=lot, position=spots[-1]), False)
        self.assertIs(self.shows(spots[1:], lot=lot, position=spots[-1]), True)
        self.assertIs(self.shows(spots, lot=lot, position=made), False)
        self.assertIs(self.shows(spots, lot=lot, position=made, many=2), True)

    def test_a_position_that_can_be_made(self):
        self.assertIs(self.shows([FINE], lot=TIGHT, position=FINE), False)
        self.assertIs(self.shows(list(LEVELS), lot=TIGHT, position=FINE), False)
        self.assertIs(self.shows(make(TIGHT, FINE, 2, 1).spots, lot=TIGHT, position=FINE), False)

    def test_what_is_no_position_of_the_lot(self):
        for wrong in [(), self.LAST[0], (self.LAST[0], (2, 1)), (self.LAST[0], (2, 3)), (self.LAST[0], (2, 2, 2)),
                      list(self.LAST), (self.LAST[0], [2, 2]), FINE, None, 0]:
            self.assertIs(self.shows([self.LAST, wrong]), False)

    def test_booleans(self):
        lot = Lot(((3, 3),), ((0, 0),), (9, 9), (), (1, None))
        last = (((1, 1), (2, 2)), (2, 2))
        before = (((2, 2), (2, 2)), (1, 2))
        self.assertIs(self.shows([before, last], lot=lot, position=before), True)
        self.assertIs(self.shows([(before[0], (True, 2)), last], lot=lot, position=before), False)
        self.assertIs(self.shows([before, (((True, 1), (2, 2)), (2, 2))], lot=lot, position=before), False)

    def test_the_current_attribute_counts(self):
        found = make(self.LOT, self.LAST, 1, 1)
        found.spots.clear()
        self.assertFalse(found.shows(self.LOT, self.LAST, 1, 1))
        found.spots = [self.LAST]
        self.assertTrue(found.shows(self.LOT, self.LAST, 1, 1))
        found.spots = (self.LAST,)
        self.assertFalse(found.shows(self.LOT, self.LAST, 1, 1))


class EqualityAndCopies(unittest.TestCase):

    def test_makes(self):
        found = Make(4, GRIND, LEVELS)
        self.assertIs(found == Make(4, GRIND, dict(reversed(list(LEVELS.items())))), True)
        self.assertIs(found != Make(4, GRIND, LEVELS), False)
        for other in (Make(3, GRIND, LEVELS), Make(4, None, LEVELS), Make(4, GRIND, {})):
            self.assertIs(found == other, False)
            self.assertIs(found != other, True)
        self.assertTrue(make(TIGHT, FINE, 1, 3) == make(TIGHT, FINE, 1, 3))

    def test_unmades(self):
        found = Unmade([FINE, THICK])
        self.assertIs(found == Unmade([FINE, THICK]), True)
        self.assertIs(found != Unmade([FINE, THICK]), False)
        for other in (Unmade([THICK, FINE]), Unmade([FINE]), Unmade([])):
            self.assertIs(found == other, False)
            self.assertIs(found != other, True)

    def test_objects_of_different_classes(self):
        objects = [Make(0, None, {}), Unmade([]), Plan(0, None, {}), Stuck([]), TIGHT]
        for one, other in product(objects, objects):
            if one is not other:
                self.assertEqual([one == other, one != other], [False, True])

    def test_the_dict_and_the_list_are_copied(self):
        levels, spots = dict(LEVELS), [FINE]
        one, other = Make(4, GRIND, levels), Unmade(spots)
        levels.clear()
        spots.clear()
        self.assertEqual([one.levels, other.spots], [LEVELS, [FINE]])
        one.levels.clear()
        other.spots.append(THICK)
        self.assertEqual([levels, spots], [{}, []])

    def test_a_changed_answer_does_not_change_a_later_one(self):
        one, other = make(TIGHT, FINE, 1, 3), make(TIGHT, FINE, 2, 3)
        kept = [dict(one.levels), list(other.spots)]
        one.levels.clear()
        other.spots.clear()
        self.assertEqual([make(TIGHT, FINE, 1, 3).levels, make(TIGHT, FINE, 2, 3).spots], kept)

    def test_attributes_are_set_when_an_object_is_created(self):
        found = Make(levels=LEVELS, tree=GRIND, bound=4)
        self.assertEqual([found.bound, found.tree, found.levels, Unmade(spots=[FINE]).spots],
                         [4, GRIND, LEVELS, [FINE]])


class Limits(unittest.TestCase):

    def lot(self, *sizes):
        ranges = tuple((4, 3 + many) for many in sizes)
        return Lot(ranges[:len(sizes) // 2], ranges[len(sizes) // 2:], (-9, 9), (), (1, None))

    def test_just_kept(self):
        for sizes in [(4, 4), (4, 2, 1), (2, 3, 1), (4, 1, 1, 1), (2, 2, 1, 1), (1, 2, 1, 1, 1), (1,) * 6]:
            lot = self.lot(*sizes)
            self.assertEqual(make_cost(lot, fresh(lot), 1, 1), 0)
            self.assertTrue(make(lot, fresh(lot), 1, 1).shows(lot, fresh(lot), 1, 1))

    def test_just_passed(self):
        for sizes in [(3, 3, 1), (4, 2, 2), (2, 1, 4, 1), (2, 2, 2, 1), (1, 1, 1, 1, 3), (2, 2, 1, 1, 1),
                      (1, 1, 1, 1, 1, 2), (4,) * 6]:
            lot = self.lot(*sizes)
            for many, fee in product((1, 2, 3), (1, 9)):
                self.assertRaises(TooLarge, make, lot, fresh(lot), many, fee)
                self.assertRaises(TooLarge, make_cost, lot, fresh(lot), many, fee)

    def test_the_ranges_of_the_position_count(self):
        lot = self.lot(4, 4, 4)
        self.assertRaises(TooLarge, make_cost, lot, (((4, 7), (4, 6), (4, 4)), (0, 0, 0)), 1, 1)
        self.assertEqual(make_cost(lot, (((4, 7), (4, 5), (4, 4)), (0, 0, 0)), 1, 1), 0)

    def test_what_was_ground_before_does_not_count(self):
        lot = self.lot(3, 3, 1)
        self.assertRaises(TooLarge, make_cost, lot, (((2, 4), (6, 8), (6, 6)), (2, 2, 2)), 1, 1)
        lot = self.lot(3, 2, 1)
        self.assertEqual(make_cost(lot, (((2, 4), (6, 7), (6, 6)), (2, 2, 2)), 1, 1), 0)

    def test_positions_at_the_limit(self):
        lot = Lot(((4, 7),), ((7, 10),), (3, 3), (5, 6, 9), (1, 2))
        found = make(lot, fresh(lot), 1, 1)
        self.assertEqual(make_cost(lot, fresh(lot), 1, 1), slow_make_cost(lot, fresh(lot), 1, 1))
        self.assertIs(found.shows(lot, fresh(lot), 1, 1), True)

    def test_moves_and_shows_have_no_limit(self):
        lot = Lot(((4, 7),) * 3, ((4, 7),) * 3, (-9, 9), (5, 6), (1, 1))
        self.assertEqual(len(moves(lot, fresh(lot))), 12 + 6 + 6)
        self.assertIs(Make(0, None, {}).shows(lot, fresh(lot), 3, 1), True)
        self.assertIs(Unmade([fresh(lot)]).shows(lot, fresh(lot), 3, 1), False)


class Positions(unittest.TestCase):

    RIGHT = [
        FINE, THICK, WIDE, THIN, (((4, 4), (6, 6)), (0, 0)), (((2, 3), (8, 8)), (2, 2)), (((3, 3), (8, 8)), (2, 2)),
        (((2, 2), (6, 6)), (2, 0)), (((4, 5), (8, 8)), (0, 2)),
    ]
    WRONG = [
        FINE[0], (FINE[0],), (FINE[0], (0, 0), ()), (FINE[0], (0,)), (FINE[0], (0, 0, 0)), (FINE[0], ()),
        (FINE[0], (1, 0)), (FINE[0], (0, 1)), (FINE[0], (2, 2)), (((4, 5), (6, 6)), (-1, 0)), (((5, 6), (6, 6)), (-1, 0)),
        (((1, 2), (6, 6)), (3, 0)), (((4, 5), (9, 9)), (0, 3)), (((3, 5), (6, 6)), (0, 0)), (((3, 5), (6, 6)), (1, 0)),
        (((5, 6), (6, 6)), (1, 0)), (((4, 5), (5, 5)), (0, 1)), (((4, 5), (7, 8)), (0, 1)), (((5, 4), (6, 6)), (0, 0)),
        (((4, 5),), (0, 0)), (((4, 5),), (0,)), (((4, 5), (6, 6), (6, 6)), (0, 0)), (((4, 5), (6, 6), (6, 6)), (0, 0, 0)),
        [FINE[0], FINE[1]], (list(FINE[0]), (0, 0)), (FINE[0], [0, 0]), (((4, 5), [6, 6]), (0, 0)), (FINE[1], FINE[0]),
        (FINE[0], (False, 0)), (FINE[0], (0, None)), (FINE[0], ("0", "0")), (FINE[0], None), (None, (0, 0)), (None, None),
        ((None, None), (0, 0)), (((4, 5), (6, None)), (0, 0)), (((4,), (6, 6)), (0, 0)), (((4, 5, 5), (6, 6)), (0, 0)),
        (((4, 5), (7, 7)), (0, True)), ((4, 6), (0, 0)), ("46", "00"), (FINE[0], 0), (FINE[0], {0: 0, 1: 0}),
    ]

    def test_what_is_a_position(self):
        for position in self.RIGHT:
            with self.subTest(position=position):
                self.assertEqual(moves(TIGHT, position), slow_moves(TIGHT, position))
                self.assertEqual(make_cost(TIGHT, position, 1, 2), slow_make_cost(TIGHT, position, 1, 2))

    def test_what_is_no_position(self):
        for position in self.WRONG + STRANGE:
            with self.subTest(position=position):
                self.assertRaises(BadPosition, moves, TIGHT, position)
                self.assertRaises(BadPosition, make, TIGHT, position, None, None)
                self.assertRaises(BadPosition, make_cost, TIGHT, position, None, None)
                self.assertRaises(BadPosition, Make(0, None, {}).shows, TIGHT, position, None, None)
                self.assertRaises(BadPosition, Unmade([]).shows, TIGHT, position, None, None)

    def test_all_counts_and_ranges(self):
        lot = Lot(((4, 5),), ((6, 7),), (2, 2), (), (1, None))
        spans = [(first, last) for first in range(1, 11) for last in range(1, 11)]
        for pin, span in product(range(-1, 4), spans):
            right = 0 <= pin <= 2 and 4 <= span[0] + pin <= span[1] + pin <= 5
            self.check(lot, ((span, (6, 7)), (pin, 0)), right)
        for bore, span in product(range(-1, 4), spans):
            right = 0 <= bore <= 2 and 6 <= span[0] - bore <= span[1] - bore <= 7
            self.check(lot, (((4, 5), span), (0, bore)), right)

    def check(self, lot, position, right):
        try:
            moves(lot, position)
        except BadPosition:
            self.assertFalse(right)
        else:
            self.assertTrue(right)

    def test_sizes_beyond_0_to_30(self):
        lot = Lot(((0, 0),), ((30, 30),), (9, 9), (), (1, None))
        self.assertEqual(moves(lot, (((-2, -2), (32, 32)), (2, 2))), [])
        self.assertEqual(moves(lot, (((-1, -1), (31, 31)), (1, 1))), [("grind", 0), ("grind", 1)])
        found = make(lot, fresh(lot), 1, 1)
        self.assertIn((((-2, -2), (32, 32)), (2, 2)), found.spots)
        self.assertTrue(found.shows(lot, fresh(lot), 1, 1))
        lot = Lot(((0, 1),), ((2, 2),), (4, 4), (), (1, 1))
        self.assertEqual(make_cost(lot, fresh(lot), 1, 1), 4)


class Refusals(unittest.TestCase):

    def calls(self):
        return [make, make_cost, Make(4, GRIND, LEVELS).shows, Unmade([FINE]).shows]

    def test_not_a_lot(self):
        for call, lot in product(self.calls() + [lambda lot, position, *_: moves(lot, position)], STRANGE + [FINE, Lot]):
            with self.subTest(call=call, lot=lot), self.assertRaises(BadLot) as caught:
                call(lot, None, None, None)
            self.assertIsNone(caught.exception.part)

    def test_not_a_number_of_pairs(self):
        for call, many in product(self.calls(), WRONG_MANY):
            with self.subTest(call=call, many=many):
                self.assertRaises(BadMany, call, TIGHT, FINE, many, None)

    def test_not_a_fee(self):
        for call, fee in product(self.calls(), WRONG_FEES):
            with self.subTest(call=call, fee=fee):
                self.assertRaises(BadFee, call, TIGHT, FINE, 1, fee)

    def test_the_limit_comes_last(self):
        lot = Lot(((4, 7),) * 3, ((4, 7),) * 3, (9, 9), (), (1, None))
        for call in (make, make_cost):
            self.assertRaises(TooLarge, call, lot, fresh(lot), 1, 1)
            self.assertRaises(BadFee, call, lot, fresh(lot), 1, 10)
            self.assertRaises(BadMany, call, lot, fresh(lot), 0, 10)
            self.assertRaises(BadPosition, call, lot, FINE, 0, 10)
        for found in (Make(1, GRIND, {}), Unmade([FINE])):
            self.assertRaises(BadFee, found.shows, lot, fresh(lot), 1, 0)
            self.assertIs(found.shows(lot, fresh(lot), 1, 1), False)

    def test_the_arguments_are_checked_before_the_attributes(self):
        for found in (Make(None, 7, {1: 2}), Unmade([7])):
            self.assertRaises(BadLot, found.shows, None, FINE, 1, 1)
            self.assertRaises(BadPosition, found.shows, TIGHT, None, 1, 1)
            self.assertRaises(BadMany, found.shows, TIGHT, FINE, True, 1)
            self.assertRaises(BadFee, found.shows, TIGHT, FINE, 1, True)


if __name__ == "__main__":
    unittest.main()
