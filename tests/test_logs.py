"""Point 10: logs, the states after them, their prices, and the sizes that they rule out."""

import unittest
from itertools import product

from surefit.errors import BadLog, BadLot, BadState
from surefit.logs import after_log, ruled_out, spent
from surefit.lots import Lot
from tests.samples import (STRANGE, all_states, lot_with, sizes_in, slow_price, slow_results, slow_tests)
from tests.test_probes import WRONG_TESTS

LOT = Lot(((4, 5),), ((6, 7), (8, 9)), (-1, 3), (5, 7), (1, 3))
START = LOT.start()
LOG = [(("gauge", 0, 5), 1), (("measure", 2), 0)]

# Three gauges for each of six parts, of which each but the first one of a part is possible behind the one before.
WIDE = Lot(((4, 7),) * 3, ((4, 7),) * 3, (0, 0), (5, 6, 7), (2, 1))
LONG = [(("gauge", part, size), 1) for part in range(6) for size in (5, 6, 7)]

CALLS = [after_log, spent, ruled_out]


def slow_logs(lot, state, most):
    """All logs from a state with so many pairs at most, each with the state after it."""
    yield [], state
    if most > 0:
        for test in slow_tests(lot, state):
            for index, result in enumerate(slow_results(state, test)):
                for log, after in slow_logs(lot, result, most - 1):
                    yield [(test, index)] + log, after


class Answers(unittest.TestCase):

    def test_the_example(self):
        self.assertEqual(after_log(LOT, START, LOG), ((5, 5), (6, 7), (8, 8)))
        self.assertEqual(spent(LOT, START, LOG), [1, 3])
        self.assertEqual(ruled_out(LOT, START, LOG), [1, 0, 1])

    def test_lists_and_tuples(self):
        for log in (LOG, tuple(LOG)):
            self.assertEqual(after_log(LOT, START, log), ((5, 5), (6, 7), (8, 8)))
            self.assertEqual([spent(LOT, START, log), ruled_out(LOT, START, log)], [[1, 3], [1, 0, 1]])

    def test_the_empty_log(self):
        for log, state in product(([], ()), all_states(LOT)):
            self.assertEqual(after_log(LOT, state, log), state)
            self.assertEqual([spent(LOT, state, log), ruled_out(LOT, state, log)], [[], [0, 0, 0]])

    def test_all_logs_of_some_lots(self):
        for lot in (LOT, Lot(((4, 7),), ((6, 8),), (0, 0), (5, 6, 8), (2, None)),
                    Lot(((4, 7),), ((6, 8),), (0, 0), (6,), (1, 4))):
            for log, after in slow_logs(lot, lot.start(), 4):
                self.assertEqual(after_log(lot, lot.start(), log), after)
                self.assertEqual(spent(lot, lot.start(), log), [slow_price(lot, test) for test, _ in log])
                gone = [len(sizes_in(before)) - len(sizes_in(span)) for before, span in zip(lot.start(), after)]
                self.assertEqual(ruled_out(lot, lot.start(), log), gone)

    def test_from_states_that_are_not_the_start(self):
        for state in all_states(LOT):
            for log, after in slow_logs(LOT, state, 2):
                self.assertEqual(after_log(LOT, state, log), after)
                gone = [len(sizes_in(before)) - len(sizes_in(span)) for before, span in zip(state, after)]
                self.assertEqual(ruled_out(LOT, state, log), gone)

    def test_a_settled_state_can_have_a_log(self):
        lot = lot_with(gap=(-9, 9))
        self.assertEqual(after_log(lot, lot.start(), [(("gauge", 1, 7), 0)]), ((4, 5), (6, 6), (8, 9)))

    def test_up_to_twelve_pairs(self):
        for many in range(13):
            for log in (LONG[:many], tuple(LONG[:many])):
                self.assertEqual(spent(WIDE, WIDE.start(), log), [2] * many)
                gone = [min(3, max(0, many - 3 * part)) for part in range(6)]
                self.assertEqual(ruled_out(WIDE, WIDE.start(), log), gone)
                after = tuple((4 + count, 7) for count in gone)
                self.assertEqual(after_log(WIDE, WIDE.start(), log), after)

    def test_kinds_of_values(self):
        self.assertIs(after_log(LOT, START, LOG).__class__, tuple)
        for call in (spent, ruled_out):
            found = call(LOT, START, tuple(LOG))
            self.assertEqual([found.__class__] + [item.__class__ for item in found], [list] + [int] * len(found))


class Refusals(unittest.TestCase):

    def refused(self, lot, state, log, index):
        for call in CALLS:
            with self.subTest(call=call, log=log), self.assertRaises(BadLog) as caught:
                call(lot, state, log)
            self.assertEqual(caught.exception.index, index)
            self.assertIsNot(caught.exception.index.__class__, bool)

    def test_not_a_list_or_tuple(self):
        for log in [None, True, 0, "", "log", b"", {}, set(), frozenset(LOG), {0: LOG[0]}, object(), iter(LOG),
                    (pair for pair in LOG), range(0), len, list]:
            self.refused(LOT, START, log, None)

    def test_more_than_twelve_items(self):
        self.refused(WIDE, WIDE.start(), LONG[:13], None)
        self.refused(WIDE, WIDE.start(), tuple(LONG), None)
        self.refused(LOT, START, [None] * 13, None)
        self.refused(LOT, START, LOG + [7] * 99, None)

    def test_twelve_items_that_are_wrong(self):
        self.refused(LOT, START, [None] * 12, 0)
        self.refused(LOT, START, LOG + [7] * 10, 2)
        self.refused(WIDE, WIDE.start(), LONG[:11] + [LONG[0]], 11)

    def test_the_first_wrong_pair(self):
        self.refused(LOT, START, [None] + LOG, 0)
        self.refused(LOT, START, LOG[:1] + [None, None], 1)
        self.refused(LOT, START, LOG + [(), None], 2)

    def test_items_that_are_no_pairs(self):
        test = ("gauge", 1, 7)
        for item in [(), (test,), (test, 0, 0), [test, 0], test, (test, None), (0, test), None, 0, "", {test: 0},
                     [], (None, 0), (None, None), ((test, 0),), (test, (0,)), (test, "0"), (test, [0])]:
            self.refused(LOT, START, [item], 0)
            self.refused(LOT, START, (LOG[0], item), 1)

    def test_lists_in_the_place_of_tests(self):
        self.refused(LOT, START, [(["gauge", 0, 5], 1)], 0)
        self.refused(LOT, START, [LOG[0], (["measure", 2], 0)], 1)

    def test_what_is_no_test(self):
        lot = lot_with(prices=(1, 3))
        for test in WRONG_TESTS + STRANGE:
            self.refused(lot, lot.start(), [(test, 0)], 0)
            self.refused(lot, lot.start(), [(("gauge", 0, 5), 0), (test, 0)], 1)

    def test_a_test_that_is_not_possible_any_more(self):
        self.refused(LOT, START, [LOG[0], LOG[0]], 1)
        self.refused(LOT, START, [LOG[0], (("measure", 0), 0)], 1)
        self.refused(LOT, START, [LOG[1], LOG[0], LOG[1]], 2)
        low = [(("gauge", 0, 6), 0), (("gauge", 0, 7), 0)]
        self.refused(WIDE, WIDE.start(), low, 1)
        self.refused(WIDE, WIDE.start(), [(("gauge", 0, 6), 1), (("gauge", 0, 5), 1)], 1)
        self.refused(WIDE, WIDE.start(), [(("gauge", 0, 6), 1), (("gauge", 0, 7), 1), (("measure", 0), 0)], 2)

    def test_a_test_that_is_not_possible_in_the_state(self):
        self.refused(LOT, ((4, 4), (6, 7), (8, 9)), LOG, 0)
        self.refused(LOT, ((4, 5), (6, 7), (8, 8)), LOG, 1)

    def test_an_index_that_is_too_great_or_negative(self):
        for index in (-2, -1, 2, 3, 10 ** 30, -10 ** 30):
            self.refused(LOT, START, [(("gauge", 0, 5), index)], 0)
            self.refused(LOT, START, [LOG[0], (("measure", 1), index)], 1)
        for index in (-1, 4):
            self.refused(WIDE, WIDE.start(), [(("measure", 0), index)], 0)
        for index, size in enumerate((4, 5, 6, 7)):
            self.assertEqual(after_log(WIDE, WIDE.start(), [(("measure", 3), index)])[3], (size, size))
        self.refused(WIDE, WIDE.start(), [(("gauge", 3, 6), 0), (("measure", 3), 2)], 1)

    def test_booleans(self):
        for index in (True, False):
            self.refused(LOT, START, [(("gauge", 0, 5), index)], 0)
            self.refused(LOT, START, [LOG[0], (("measure", 2), index)], 1)
        self.refused(LOT, START, [(("gauge", False, 5), 0)], 0)
        self.refused(LOT, START, [LOG[0], (("measure", True), 0)], 1)

    def test_not_a_lot(self):
        for call, lot in product(CALLS, STRANGE + [START, Lot]):
            with self.subTest(call=call, lot=lot), self.assertRaises(BadLot) as caught:
                call(lot, None, None)
            self.assertIsNone(caught.exception.part)

    def test_not_a_state(self):
        for call, state in product(CALLS, [((4, 5), (6, 7)), ((4, 6), (6, 7), (8, 9)), list(START)] + STRANGE):
            with self.subTest(call=call, state=state):
                self.assertRaises(BadState, call, LOT, state, None)
                self.assertRaises(BadState, call, LOT, state, LOG)

    def test_a_refused_log_is_not_changed(self):
        log = LOG + [None]
        self.refused(LOT, START, log, 2)
        self.assertEqual(log, LOG + [None])


class Copies(unittest.TestCase):

    def test_the_log_is_not_changed(self):
        log = list(LOG)
        for call in CALLS:
            call(LOT, START, log)
        self.assertEqual(log, LOG)

    def test_a_changed_answer_does_not_change_a_later_one(self):
        for call in (spent, ruled_out):
            kept = list(call(LOT, START, LOG))
            call(LOT, START, LOG).clear()
            self.assertEqual(call(LOT, START, LOG), kept)
            self.assertIsNot(call(LOT, START, LOG), call(LOT, START, LOG))


if __name__ == "__main__":
    unittest.main()
