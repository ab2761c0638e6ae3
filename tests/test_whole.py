"""Point 1 over all modules: a test for each of its sentences."""

import ast
import os
import subprocess
import sys
import unittest
from copy import deepcopy
from itertools import product
from pathlib import Path

import surefit
from surefit.batches import Batch, NoBatch, batch, batch_cost
from surefit.errors import (BadFee, BadInspector, BadLog, BadLot, BadMany, BadPosition, BadSizes, BadState, BadTest,
                            BadTests, BadText, FitError, FullLot, NothingDone, TooLarge)
from surefit.gauges import Gauges, best_gauge, gauge_costs, more_gauges
from surefit.grinds import Make, Unmade, make, make_cost, moves
from surefit.inspectors import Ends, Quits, judge, next_test, worst_cost
from surefit.logs import after_log, ruled_out, spent
from surefit.lots import Lot, hoped_pairs, sure_pairs, verdict
from surefit.plans import Plan, Stuck, plan, plan_cost
from surefit.probes import all_tests, results
from surefit.sessions import Session
from surefit.texts import lot_text, read_lot, read_state, state_text
from tests.samples import STRANGE, WRONG_MANY, lot_with

FOLDER = Path(surefit.__file__).parent

# A lot with measures and three gauges, so that there can be a further one.
LOT = lot_with(prices=(1, 2))
SHUT = lot_with(gauges=(5,))
START = LOT.start()
PLACE = (START, (0, 0, 0))
# A pin and a bore that do not fit unless one of them is ground.
TINY = Lot(((4, 5),), ((5, 5),), (2, 2), (5,), (1, None))
TIGHT = (TINY.start(), (0, 0))
# Two lots that are too large, for states and for positions.
VAST = Lot(((4, 7),) * 3, ((4, 7),) * 3, (0, 0), (5, 6), (1, 1))
FULL = lot_with(gauges=(5, 7, 9, 11))
LOG = [(("gauge", 0, 5), 1), (("measure", 2), 0)]
ZERO = Lot(((0, 1),), ((0, 1),), (0, 0), (1,), (1, 1))

# What each kind of argument is refused with, and what is refused: for each list, a good value stands first.
LOTS = (BadLot, [LOT, None, True, START, "lot"])
STATES = (BadState, [START, None, list(START), START[:2], ((4, 5), (6, 7), (8, 10)), ((4, True), (6, 7), (8, 9))])
POSITIONS = (BadPosition, [PLACE, None, list(PLACE), START, (START, (0, 0, True)), (START, [0, 0, 0])])
MANIES = (BadMany, [1, *WRONG_MANY])
FEES = (BadFee, [1, 0, 10, True, None, "1"])
WORDS = (BadInspector, ["first", "", "First", None, True, ["first"]])
TESTS = (BadTest, [("gauge", 0, 5), None, ["gauge", 0, 5], ("gauge", False, 5), ("gauge", 0, 6)])
LOGS = (BadLog, [LOG, None, {}, [None], LOG + LOG, [(("gauge", 0, 5), True)], [list(LOG[0])]])
SIZES = (BadSizes, [(4, 6, 8), None, [4, 6, 8], (4, 6), (4, 6, 10), (True, 6, 8)])
LOT_TEXTS = (BadText, [lot_text(LOT), None, True, "", b"", lot_text(LOT)[:-1]])
STATE_TEXTS = (BadText, [state_text(LOT, START), None, True, "", "4 5\n6 7\n8 10\n", state_text(LOT, START)[:-1]])

STATE_ARGUMENTS = [LOTS, STATES, MANIES]
POSITION_ARGUMENTS = [LOTS, POSITIONS, MANIES, FEES]

# All functions, and `shows` of all classes, with their arguments in the order in which they are checked.
CALLS = {
    **{call: [LOTS, STATES] for call in (sure_pairs, hoped_pairs, all_tests, state_text)},
    **{call: STATE_ARGUMENTS for call in (verdict, plan, plan_cost, batch, batch_cost, more_gauges, gauge_costs,
                                          best_gauge, Plan(0, None, {}).shows, Stuck([]).shows, Batch([], None).shows,
                                          NoBatch(START).shows, Gauges({}).shows)},
    **{call: STATE_ARGUMENTS + [WORDS] for call in (next_test, judge, worst_cost, Ends(0, (), {}).shows,
                                                    Quits(()).shows)},
    **{call: POSITION_ARGUMENTS for call in (make, make_cost, Make(0, None, {}).shows, Unmade([]).shows)},
    **{call: [LOTS, STATES, LOGS] for call in (after_log, spent, ruled_out)},
    results: [LOTS, STATES, TESTS], moves: [LOTS, POSITIONS], Session: [LOTS, SIZES], lot_text: [LOTS],
    read_lot: [LOT_TEXTS], read_state: [LOTS, STATE_TEXTS],
}

# What is too large is refused at last, but not by `shows`.
SHOWING = [call for call in CALLS if getattr(call, "__name__", "") == "shows"]


def answers():
    """An answer of each function, each time worked out anew."""
    session = Session(LOT, (4, 6, 8))
    session.test(("gauge", 0, 5))
    found = [call(*[values[0] for _, values in arguments]) for call, arguments in CALLS.items()
             if call not in SHOWING and call is not Session]
    found += [make(TINY, TIGHT, 1, 1), make(TINY, TIGHT, 2, 1), plan(SHUT, START, 1),
              batch(SHUT, START, 1), judge(SHUT, START, 1, "even"), more_gauges(SHUT, START, 1), session.known,
              session.journal, session.paid(), session.tried([("measure", 1)]), session.branch().undo()]
    return found


def shown(value):
    """An answer as a text, with all attributes of objects, in the order of their dicts and lists."""
    if isinstance(value, (list, tuple)):
        return [value.__class__.__name__, [shown(item) for item in value]]
    if isinstance(value, dict):
        return ["dict", [shown(pair) for pair in value.items()]]
    return [value.__class__.__name__, shown(vars(value)) if hasattr(value, "__dict__") else repr(value)]


class Values(unittest.TestCase):

    def test_booleans_are_not_integers(self):
        start, place = ZERO.start(), (ZERO.start(), (0, 0))
        test, low = ("gauge", 0, 1), ((0, 0), (0, 1))
        refusals = [
            (BadLot, lambda: Lot(((False, 1),), ((0, 1),), (0, 0), (1,), (1, 1))),
            (BadLot, lambda: Lot(((0, 1),), ((0, True),), (0, 0), (1,), (1, 1))),
            (BadLot, lambda: Lot(((0, 1),), ((0, 1),), (False, 0), (1,), (1, 1))),
            (BadLot, lambda: Lot(((0, 1),), ((0, 1),), (0, 0), (True,), (1, 1))),
            (BadLot, lambda: Lot(((0, 1),), ((0, 1),), (0, 0), (1,), (1, True))),
            (BadState, lambda: all_tests(ZERO, ((0, True), (0, 1)))), (BadMany, lambda: verdict(ZERO, start, True)),
            (BadTest, lambda: results(ZERO, start, ("gauge", False, 1))),
            (BadPosition, lambda: moves(ZERO, (start, (0, False)))), (BadFee, lambda: make_cost(ZERO, place, 1, True)),
            (BadInspector, lambda: next_test(ZERO, start, 1, True)), (BadSizes, lambda: Session(ZERO, (True, 0))),
            (BadLog, lambda: spent(ZERO, start, [(test, True)])),
            (BadTest, lambda: Session(ZERO, (0, 0)).test(("measure", False))),
            (BadTests, lambda: Session(ZERO, (0, 0)).tried([("measure", True)])),
        ]
        for error, call in refusals:
            with self.subTest(error=error):
                self.assertRaises(error, call)

    def test_booleans_as_keys_and_within_answers(self):
        start = ZERO.start()
        false_low = ((0, False), (0, 1))
        # Of the levels and heights the changed ones are those of states, or have keys that are states.
        found = plan(ZERO, start, 1)
        levels = {state: level for state, level in found.levels.items() if state != ((0, 0), (0, 1))}
        wrong = [Plan(found.bound, found.tree, {**levels, false_low: 1}),
                 Plan(found.bound, found.tree, {**found.levels, start: True})]
        self.assertTrue(Plan(found.bound, found.tree, {**levels, ((0, 0), (0, 1)): 1}).shows(ZERO, start, 1))
        bare = Lot(((0, 1),), ((0, 1),), (0, 0), (), (1, None))
        self.assertEqual([one.shows(ZERO, start, 1) for one in wrong], [False, False])
        self.assertEqual([Stuck([state]).shows(bare, start, 1) for state in (start, ((0, True), (0, 1)))], [True, False])
        self.assertEqual([NoBatch(state).shows(bare, start, 1) for state in (start, ((0, True), (0, 1)))], [True, False])
        tests = batch(ZERO, start, 1).tests
        self.assertFalse(Batch([(word, bool(part), *rest) for word, part, *rest in tests],
                               batch(ZERO, start, 1).tree).shows(ZERO, start, 1))
        row = more_gauges(bare, start, 1).rows[1]
        self.assertEqual([Gauges({size: row}).shows(bare, start, 1) for size in (1, True)], [True, False])
        end = judge(ZERO, start, 1, "first")
        changed = [Ends(end.total, tuple(map(bool, end.sizes)), end.heights),
                   Ends(end.total, end.sizes, {**end.heights, false_low: 9})]
        self.assertEqual([one.shows(ZERO, start, 1, "first") for one in (end, *changed)], [True, False, False])
        self.assertEqual([Quits(sizes).shows(bare, start, 1, "wide") for sizes in ((1, 0), (True, 0))], [True, False])
        place = (start, (0, 0))
        wrong = [Unmade([(start, (0, False))]), Make(0, None, {(start, (0, False)): 0}), Make(False, None, {})]
        self.assertEqual([one.shows(ZERO, place, 3, 1) for one in wrong], [False] * 3)
        self.assertEqual([one.shows(ZERO, (((0, 0), (0, 0)), (0, 0)), 1, 1) for one in wrong[1:]], [False] * 2)

    def test_indices_start_at_0(self):
        self.assertEqual([all_tests(LOT, START)[0], sure_pairs(LOT, ((4, 4), (7, 7), (8, 9)))],
                         [("gauge", 0, 5), [(0, 1)]])
        self.assertEqual(Session(LOT, (4, 6, 8)).test(("gauge", 0, 5)), 0)
        self.assertEqual(after_log(LOT, START, [(("gauge", 0, 5), 0)]), ((4, 4), (6, 7), (8, 9)))
        self.assertEqual(moves(LOT, PLACE)[-3:], [("grind", 0), ("grind", 1), ("grind", 2)])
        for error, call in [(BadLog, lambda: spent(LOT, START, [None])), (BadText, lambda: read_lot("x\n")),
                            (BadTests, lambda: Session(LOT, (4, 6, 8)).tried([None]))]:
            with self.assertRaises(error) as caught:
                call()
            self.assertEqual(getattr(caught.exception, "row" if error is BadText else "index"), 0)

    def test_groups_of_a_fixed_size_are_tuples(self):
        lot = lot_with(gap=(-9, 9), prices=(1, 2))
        found = sure_pairs(lot, lot.start()) + hoped_pairs(lot, lot.start()) + all_tests(lot, lot.start())
        found += moves(lot, PLACE) + Session(lot, (4, 6, 8)).journal + list(more_gauges(lot, START, 1))
        states = [lot.start()] + results(lot, lot.start(), ("gauge", 1, 7)) + results(lot, lot.start(), ("measure", 1))
        states += [after_log(lot, START, LOG), read_state(lot, state_text(lot, START)), Session(lot, (4, 6, 8)).known]
        states += list(plan(SHUT, START, 1)) + [batch(SHUT, START, 1).state] + list(judge(LOT, START, 1, "even").heights)
        positions = list(make(TINY, TIGHT, 2, 1)) + list(make(TINY, TIGHT, 1, 1).levels)
        found += positions + [group for position in positions for group in position]
        for group in found + states + [span for state in states for span in state]:
            self.assertIs(group.__class__, tuple)
        self.assertEqual([value.__class__ for value in (lot.pins, lot.bores, lot.gap, lot.gauges, lot.prices)],
                         [tuple] * 5)

    def test_other_sequences_are_lists(self):
        session = Session(LOT, (4, 6, 8))
        found = [sure_pairs(LOT, START), hoped_pairs(LOT, START), all_tests(LOT, START), moves(LOT, PLACE),
                 results(LOT, START, ("measure", 0)), plan(SHUT, START, 1).states, batch(LOT, START, 1).tests,
                 make(TINY, TIGHT, 2, 1).spots, spent(LOT, START, tuple(LOG)), ruled_out(LOT, START, tuple(LOG)),
                 session.journal, session.tried((("measure", 0),))]
        self.assertEqual([value.__class__ for value in found], [list] * len(found))

    def test_ascending_sequences_have_no_item_twice(self):
        for gauges in [(5, 5), (5, 5, 7), (5, 7, 7), (7, 5)]:
            self.assertRaises(BadLot, lot_with, gauges=gauges)
            text = lot_text(LOT).replace("gauges 5 7 9", " ".join(["gauges", *map(str, gauges)]))
            self.assertRaises(BadText, read_lot, text)
        sizes = list(gauge_costs(lot_with(pins=((4, 5), (4, 5), (4, 5)), gauges=()), ((4, 5),) * 3 + START[1:], 1))
        self.assertEqual(sizes, [5, 7, 9])

    def test_the_order_of_dicts(self):
        lot = lot_with(gauges=())
        self.assertEqual([list(gauge_costs(lot, START, 1)), list(more_gauges(lot, START, 1).rows)], [[5, 7, 9]] * 2)

        def backwards(values):
            return dict(reversed(list(values.items())))

        one, other = plan(LOT, START, 1), more_gauges(lot, START, 1)
        work, end = make(TINY, TIGHT, 1, 1), judge(LOT, START, 1, "wide")
        self.assertTrue(min(len(one.levels), len(other.rows), len(work.levels), len(end.heights)) > 1)
        self.assertTrue(Plan(one.bound, one.tree, backwards(one.levels)).shows(LOT, START, 1))
        self.assertTrue(Gauges(backwards(other.rows)).shows(lot, START, 1))
        self.assertTrue(Make(work.bound, work.tree, backwards(work.levels)).shows(TINY, TIGHT, 1, 1))
        self.assertTrue(Ends(end.total, end.sizes, backwards(end.heights)).shows(LOT, START, 1, "wide"))


class Host(unittest.TestCase):

    def test_no_clock_no_randomness_and_no_files(self):
        barred = {"open", "input", "print", "id", "hash", "object", "exec", "eval", "vars", "globals"}
        for path in sorted(FOLDER.glob("*.py")):
            for node in ast.walk(ast.parse(path.read_text(encoding="utf-8"))):
                with self.subTest(path=path.name):
                    self.assertNotIsInstance(node, ast.Import)
                    if isinstance(node, ast.ImportFrom):
                        self.assertEqual([node.module.split(".")[0], node.level], ["surefit", 0])
                    if isinstance(node, ast.Name):
                        self.assertNotIn(node.id, barred)

    def test_the_same_answers_each_time(self):
        self.assertEqual(shown(answers()), shown(answers()))

    def test_the_same_answers_whatever_the_hashes_of_strings_are(self):
        code = "from tests.test_whole import answers, shown; print(shown(answers()))"
        told = {subprocess.run([sys.executable, "-B", "-c", code], cwd=FOLDER.parent, check=True, capture_output=True,
                               env={**os.environ, "PYTHONHASHSEED": seed}).stdout for seed in ("0", "1", "77")}
        self.assertEqual(len(told), 1)
        self.assertEqual(told.pop().decode().strip(), str(shown(answers())))


class Arguments(unittest.TestCase):

    def test_they_are_not_modified(self):
        log, tests = list(LOG), [("gauge", 0, 5), ("measure", 1)]
        for call in (after_log, spent, ruled_out):
            call(LOT, START, log)
        Session(LOT, (4, 6, 8)).tried(tests)
        self.assertEqual([log, tests], [LOG, [("gauge", 0, 5), ("measure", 1)]])
        for found, call in self.objects():
            kept = shown(found)
            self.assertTrue(call(found))
            self.assertEqual(shown(found), kept)

    def objects(self):
        """An object of each class, with a call of its `shows` that is right."""
        for found in (plan(LOT, START, 1), plan(SHUT, START, 1)):
            lot = LOT if isinstance(found, Plan) else SHUT
            yield found, lambda one, lot=lot: one.shows(lot, START, 1)
        for lot in (LOT, SHUT):
            yield batch(lot, START, 1), lambda one, lot=lot: one.shows(lot, START, 1)
            yield judge(lot, START, 1, "even"), lambda one, lot=lot: one.shows(lot, START, 1, "even")
        yield more_gauges(SHUT, START, 1), lambda one: one.shows(SHUT, START, 1)
        for many in (1, 2):
            yield make(TINY, TIGHT, many, 1), lambda one, many=many: one.shows(TINY, TIGHT, many, 1)

    def test_objects_of_all_classes(self):
        classes = {found.__class__ for found, _ in self.objects()}
        self.assertEqual(classes, {Plan, Stuck, Batch, NoBatch, Gauges, Make, Unmade, Ends, Quits})

    def test_lists_and_dicts_are_not_kept(self):
        states, tests, spots = [START], [("gauge", 0, 5)], [PLACE]
        levels, rows, work, heights = {START: 1}, {7: None}, {PLACE: 1}, {START: 0}
        found = [Stuck(states), Batch(tests, None), Unmade(spots), Plan(0, None, levels), Gauges(rows),
                 Make(0, None, work), Ends(0, (), heights)]
        kept = shown(found)
        for each in (states, tests, spots, levels, rows, work, heights):
            each.clear()
        self.assertEqual(shown(found), kept)

    def test_attributes_are_not_shared_with_the_arguments(self):
        states, tests, spots = [START], [("gauge", 0, 5)], [PLACE]
        levels, rows, work, heights = {START: 1}, {7: None}, {PLACE: 1}, {START: 0}
        for each in [Stuck(states).states, Batch(tests, None).tests, Unmade(spots).spots, Plan(0, None, levels).levels,
                     Gauges(rows).rows, Make(0, None, work).levels, Ends(0, (), heights).heights]:
            each.clear()
        self.assertTrue(all([states, tests, spots, levels, rows, work, heights]))

    def test_logs_and_tests_are_not_kept(self):
        session, tests = Session(LOT, (4, 6, 8)), [("gauge", 0, 5)]
        self.assertEqual(session.tried(tests), [0])
        tests[0] = ("measure", 2)
        self.assertEqual([session.journal, session.tried(tests)], [[], [0]])

    def test_lots_never_change(self):
        lots = [LOT, SHUT, TINY, VAST]
        kept = shown(lots)
        answers()
        for lot in lots:
            for name in ("pins", "bores", "gap", "gauges", "prices"):
                with self.assertRaises(AttributeError):
                    setattr(lot, name, ())
        self.assertEqual(shown(lots), kept)
        self.assertTrue(LOT == lot_with(prices=(1, 2)))

    def test_every_returned_list_or_dict_is_new(self):
        session, lot = Session(LOT, (4, 6, 8)), lot_with(gap=(-9, 9), prices=(1, 2))
        session.test(("gauge", 0, 5))
        stone = Lot(((4, 4),), ((5, 5),), (9, 9), (), (1, None))
        place = (stone.start(), (0, 0))
        calls = [lambda: sure_pairs(lot, START), lambda: hoped_pairs(lot, START), lambda: all_tests(LOT, START),
                 lambda: results(LOT, START, ("gauge", 1, 7)), lambda: results(LOT, START, ("measure", 1)),
                 lambda: plan(LOT, START, 1).levels, lambda: plan(SHUT, START, 1).states,
                 lambda: batch(LOT, START, 1).tests, lambda: more_gauges(SHUT, START, 1).rows,
                 lambda: gauge_costs(SHUT, START, 1), lambda: make(TINY, TIGHT, 1, 1).levels,
                 lambda: make(stone, place, 1, 1).spots, lambda: moves(LOT, PLACE),
                 lambda: judge(LOT, START, 1, "first").heights, lambda: spent(LOT, START, LOG),
                 lambda: ruled_out(LOT, START, LOG), lambda: session.journal, lambda: session.tried([("measure", 1)])]
        for call in calls:
            found = call()
            self.assertIn(found.__class__, (list, dict))
            kept = deepcopy(found)
            self.assertTrue(kept)
            self.assertIsNot(call(), call())
            found.clear()
            self.assertTrue(call() == kept)


class Errors(unittest.TestCase):

    def refused(self, error, call, *arguments):
        with self.subTest(call=call, arguments=arguments):
            with self.assertRaises(FitError) as caught:
                call(*arguments)
            self.assertIs(caught.exception.__class__, error)

    def test_a_good_value_is_not_refused(self):
        for call, arguments in CALLS.items():
            call(*[values[0] for _, values in arguments])

    def test_each_condition(self):
        for call, arguments in CALLS.items():
            for at, (error, values) in enumerate(arguments):
                for wrong in values[1:]:
                    good = [others[0] for _, others in arguments]
                    self.refused(error, call, *good[:at], wrong, *good[at + 1:])

    def test_whatever_the_argument_is(self):
        for call, arguments in CALLS.items():
            for at, (error, _) in enumerate(arguments):
                for wrong in STRANGE:
                    good = [others[0] for _, others in arguments]
                    # A list without any pairs is a log.
                    if error is not BadLog or wrong.__class__ is not list:
                        self.refused(error, call, *good[:at], wrong, *good[at + 1:])

    def test_the_error_documented_first(self):
        for call, arguments in CALLS.items():
            for wrongs in product(*[(False, True)] * len(arguments)):
                if True in wrongs:
                    values = [values[2] if wrong else values[0] for wrong, (_, values) in zip(wrongs, arguments)]
                    self.refused(arguments[wrongs.index(True)][0], call, *values)

    def test_limits(self):
        state = VAST.start()
        for call in (plan, plan_cost, batch, batch_cost, more_gauges, gauge_costs, best_gauge):
            self.refused(TooLarge, call, VAST, state, 1)
        for call in (judge, worst_cost):
            self.refused(TooLarge, call, VAST, state, 1, "wide")
        for call in (make, make_cost):
            self.refused(TooLarge, call, VAST, (state, (0,) * 6), 1, 1)
        for call in (more_gauges, gauge_costs, best_gauge, Gauges({}).shows):
            self.refused(FullLot, call, FULL, START, 1)
        tests = [("measure", part) for part in range(6)] + [("gauge", part, 5) for part in range(6)]
        self.refused(BadTests, Session(VAST, (7,) * 6).tried, tests + tests[:1])
        self.refused(BadLog, spent, VAST, state, [(test, 0) for test in tests + tests[:1]])

    def test_limits_come_last_and_not_for_shows(self):
        state, place = VAST.start(), (VAST.start(), (0,) * 6)
        for call, arguments in CALLS.items():
            errors = [error for error, _ in arguments]
            wide = {BadLot: VAST, BadState: state, BadPosition: place, BadMany: 1, BadFee: 1, BadInspector: "wide"}
            if BadMany in errors and call is not next_test and call is not verdict:
                good = [wide[error] for error in errors]
                if call in SHOWING:
                    self.assertIs(call(*good), False)
                else:
                    self.refused(TooLarge, call, *good)
                for at, error in enumerate(errors[1:], 1):
                    self.refused(error, call, *good[:at], None, *good[at + 1:])

    def test_a_call_that_is_refused_changes_nothing(self):
        session = Session(LOT, (4, 6, 8))
        session.test(("gauge", 0, 5))
        kept = shown(session)
        calls = [(BadTest, lambda: session.test(("gauge", 0, 5))), (BadTest, lambda: session.test(None)),
                 (BadTests, lambda: session.tried(None)), (BadTests, lambda: session.tried([("measure", 1), None]))]
        for error, call in calls:
            self.refused(error, call)
            self.assertEqual(shown(session), kept)
        session.undo()
        kept = shown(session)
        self.refused(NothingDone, session.undo)
        self.assertEqual(shown(session), kept)
        with session.trial():
            kept = shown(session)
            self.refused(NothingDone, session.undo)
            self.refused(BadTest, session.test, None)
            self.assertEqual(shown(session), kept)
        log = [LOG[0], None]
        self.refused(BadLog, spent, LOT, START, log)
        self.assertEqual(log, [LOG[0], None])

    def test_what_the_errors_tell(self):
        told = [(BadLot, "part", None, lambda: spent(None, START, [])),
                (BadLot, "part", "GAP", lambda: lot_with(gap=None, prices=None)),
                (BadLog, "index", None, lambda: spent(LOT, START, None)),
                (BadLog, "index", 2, lambda: spent(LOT, START, LOG + LOG)),
                (BadTests, "index", None, lambda: Session(LOT, (4, 6, 8)).tried("")),
                (BadTests, "index", 1, lambda: Session(LOT, (4, 6, 8)).tried([("measure", 1)] * 2)),
                (BadText, "row", 0, lambda: read_lot(None)), (BadText, "row", 2, lambda: read_state(LOT, "4 5\n6 7\n8")),
                (BadText, "row", 5, lambda: read_lot(lot_text(LOT)[:-1]))]
        for error, name, value, call in told:
            with self.assertRaises(error) as caught:
                call()
            self.assertEqual(getattr(caught.exception, name), value)


class Equality(unittest.TestCase):

    def objects(self):
        return [LOT, Plan(0, (), {}), Stuck([]), Batch([], ()), NoBatch(()), Gauges({}), Make(0, (), {}), Unmade([]),
                Ends(0, (), {}), Quits(()), Session(LOT, (4, 6, 8))]

    def test_objects_of_different_classes_are_not_equal(self):
        found = self.objects()
        for (at, one), (place, other) in product(enumerate(found), enumerate(self.objects())):
            if at != place:
                self.assertEqual([one == other, one != other], [False, True])

    def test_two_of_one_class_are_equal_as_documented(self):
        for one, other in list(zip(self.objects(), self.objects()))[:-1]:
            self.assertEqual([one == other, one != other], [True, False])
        changed = [lot_with(prices=(1, 3)), Plan(0, None, {}), Stuck([START]), Batch([], None), NoBatch(START),
                   Gauges({7: None}), Make(1, (), {}), Unmade([PLACE]), Ends(0, (4,), {}), Quits((4,))]
        for one, other in zip(self.objects(), changed):
            self.assertIs(one.__class__, other.__class__)
            self.assertEqual([one == other, one != other], [False, True])

    def test_the_opposite(self):
        found = self.objects() + self.objects() + [SHUT, Stuck([START]), Quits((4,))]
        for one, other in product(found, found):
            self.assertIs(one != other, not one == other)


class Iterating(unittest.TestCase):

    def test_each_time_anew_and_in_order(self):
        session = Session(LOT, (4, 6, 8))
        for test in [("measure", 1), ("gauge", 0, 5), ("measure", 2)]:
            session.test(test)
        rows = {9: None, 7: Stuck([])}
        items = [(Stuck([START, PLACE, START]), [START, PLACE, START]), (Unmade([PLACE, START]), [PLACE, START]),
                 (Batch([("measure", 1), ("gauge", 0, 5)], None), [("measure", 1), ("gauge", 0, 5)]),
                 (Gauges(rows), list(rows.items())),
                 (session, [(("measure", 1), 0), (("gauge", 0, 5), 0), (("measure", 2), 0)])]
        for found, wanted in items:
            for _ in range(2):
                self.assertTrue(list(found) == wanted and [item for item in found] == wanted)
            one, other = iter(found), iter(found)
            self.assertTrue([next(one), next(other), next(one)] == [wanted[0], wanted[0], wanted[1]])


if __name__ == "__main__":
    unittest.main()
