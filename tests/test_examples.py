"""The examples of the document's interface, as they are written there."""

import doctest
import unittest

LOTS_AND_PROBES = """
>>> from surefit.lots import Lot, hoped_pairs, sure_pairs, verdict
>>> from surefit.probes import all_tests, results
>>> two = Lot(((4, 5),), ((6, 7), (8, 9)), (3, 3), (5, 7, 9), (1, None))
>>> start = two.start()
>>> found = [sure_pairs(two, start), hoped_pairs(two, start), sure_pairs(two, ((4, 4), (7, 7), (8, 9)))]
>>> [found, [verdict(two, start, many) for many in (1, 2)], verdict(two, ((4, 4), (6, 6), (8, 9)), 1), all_tests(two, start), results(two, start, ('gauge', 1, 7))]
[[[], [(0, 1)], [(0, 1)]], [None, False], False, [('gauge', 0, 5), ('gauge', 1, 7), ('gauge', 2, 9)], [((4, 5), (6, 6), (8, 9)), ((4, 5), (7, 7), (8, 9))]]
"""

PLANS = """
>>> from surefit.lots import Lot
>>> from surefit.plans import Plan, Stuck, plan, plan_cost
>>> two, shut = [Lot(((4, 5),), ((6, 7), (8, 9)), (3, 3), gauges, (1, None)) for gauges in ((5, 7, 9), (5,))]
>>> dear = Lot(((4, 5),), ((6, 7), (8, 9)), (3, 3), (5,), (1, 3))
>>> start, small = two.start(), ((4, 4), (6, 7), (8, 9))
>>> tree = (('gauge', 0, 5), ((('gauge', 1, 7), (None, None)), (('gauge', 2, 9), (None, None))))
>>> levels = {start: 2, small: 1, ((4, 5), (7, 7), (8, 9)): 1, ((4, 5), (6, 7), (8, 8)): 1}
>>> shown = [Plan(2, tree, levels).shows(two, start, 1), Plan(2, tree, {}).shows(two, start, 1), Plan(1, tree, levels).shows(two, start, 1), Stuck([start, small]).shows(shut, start, 1), Stuck([start]).shows(shut, start, 1)]
>>> [[plan_cost(lot, start, 1) for lot in (two, shut, dear)], plan_cost(two, start, 2), shown, plan(dear, start, 1).shows(dear, start, 1)]
[[2, None, 4], 0, [True, False, False, True, False], True]
"""

BATCHES = """
>>> from surefit.batches import Batch, NoBatch, batch, batch_cost
>>> from surefit.lots import Lot
>>> from surefit.plans import plan_cost
>>> two, shut = [Lot(((4, 5),), ((6, 7), (8, 9)), (3, 3), gauges, (1, None)) for gauges in ((5, 7, 9), (5,))]
>>> tests, start, leaf = [('gauge', 0, 5), ('gauge', 1, 7), ('gauge', 2, 9)], two.start(), ('price', None, None)
>>> shut_out = [('open', ((4, 5), (7, 7), (8, 8)), None), ('open', ((4, 4), (6, 7), (8, 8)), None), ('open', ((5, 5), (6, 6), (8, 9)), None)]
>>> tree = (tests[0], (tests[1], (tests[2], leaf, shut_out[2]), shut_out[1]), shut_out[0])
>>> shown = [Batch(tests, tree).shows(two, start, 1), Batch(tests[:2], tree).shows(two, start, 1), Batch(tests, leaf).shows(two, start, 1), NoBatch(((4, 4), (6, 7), (8, 9))).shows(shut, start, 1)]
>>> [batch_cost(two, start, 1), plan_cost(two, start, 1), batch_cost(shut, start, 1), shown, batch(two, start, 1).shows(two, start, 1)]
[3, 2, None, [True, False, False, True], True]
"""

GAUGES = """
>>> from surefit.gauges import best_gauge, gauge_costs, more_gauges
>>> from surefit.lots import Lot
>>> shut = Lot(((4, 5),), ((6, 7), (8, 9)), (3, 3), (5,), (1, None))
>>> [gauge_costs(shut, shut.start(), 1), best_gauge(shut, shut.start(), 1), more_gauges(shut, shut.start(), 1).shows(shut, shut.start(), 1)]
[{7: None, 9: None}, None, True]
"""

GRINDS = """
>>> from surefit.grinds import Make, make, make_cost, moves
>>> from surefit.lots import Lot
>>> tight = Lot(((4, 5),), ((6, 6),), (2, 2), (5,), (1, None))
>>> fine = (((4, 5), (6, 6)), (0, 0))
>>> grind = (('gauge', 0, 5), (None, (('grind', 0), (None,))))
>>> levels = {fine: 4, (((5, 5), (6, 6)), (0, 0)): 3, (((4, 5), (7, 7)), (0, 1)): 1, (((3, 4), (6, 6)), (1, 0)): 1}
>>> shown = [Make(4, grind, levels).shows(tight, fine, 1, 3), Make(3, grind, levels).shows(tight, fine, 1, 3), Make(4, grind, {}).shows(tight, fine, 1, 3)]
>>> [moves(tight, fine), [make_cost(tight, fine, 1, fee) for fee in (1, 3)], shown, make_cost(tight, fine, 2, 1), make(tight, fine, 2, 1).shows(tight, fine, 2, 1)]
[[('gauge', 0, 5), ('grind', 0), ('grind', 1)], [2, 4], [True, False, False], None, True]
"""

INSPECTORS = """
>>> from surefit.inspectors import Ends, Quits, judge, next_test, worst_cost
>>> from surefit.lots import Lot
>>> two, shut = [Lot(((4, 5),), ((6, 7), (8, 9)), (3, 3), gauges, (1, None)) for gauges in ((5, 7, 9), (5,))]
>>> start, small, great = two.start(), ((4, 4), (6, 7), (8, 9)), ((5, 5), (6, 7), (8, 9))
>>> shown = [Quits((4, 6, 8)).shows(shut, start, 1, 'first'), Quits((5, 6, 8)).shows(two, start, 1, 'first'), judge(two, start, 1, 'first').shows(two, start, 1, 'first')]
>>> [[next_test(two, state, 1, 'first') for state in (start, small, great)], [worst_cost(two, start, 1, inspector) for inspector in ('first', 'cheap', 'even', 'wide')], worst_cost(shut, start, 1, 'first'), shown]
[[('gauge', 0, 5), ('gauge', 1, 7), ('gauge', 1, 7)], [3, 3, 3, 3], None, [True, False, True]]
"""

LOGS_SESSIONS_AND_TEXTS = r"""
>>> from surefit.logs import after_log, ruled_out, spent
>>> from surefit.lots import Lot
>>> from surefit.sessions import Session
>>> from surefit.texts import lot_text, read_lot, read_state, state_text
>>> lot = Lot(((4, 5),), ((6, 7), (8, 9)), (-1, 3), (5, 7), (1, 3))
>>> session = Session(lot, (5, 6, 9))
>>> found = [session.test(('gauge', 0, 5)), session.known, session.tried([('gauge', 1, 7), ('measure', 2)]), session.test(('measure', 2)), session.paid(), list(session), session.undo(), len(session)]
>>> log = [(('gauge', 0, 5), 1), (('measure', 2), 0)]
>>> facts = [after_log(lot, lot.start(), log), spent(lot, lot.start(), log), ruled_out(lot, lot.start(), log)]
>>> texts = [lot_text(lot), state_text(lot, ((5, 5), (6, 7), (8, 8))), read_state(lot, '4 5\n6 6\n8 9\n'), read_lot(lot_text(lot)) == lot]
>>> [found, facts, texts]
[[1, ((5, 5), (6, 7), (8, 9)), [0, 1], 1, 4, [(('gauge', 0, 5), 1), (('measure', 2), 1)], (('measure', 2), 1), 1], [((5, 5), (6, 7), (8, 8)), [1, 3], [1, 0, 1]], ['pin 4 5\nbore 6 7\nbore 8 9\ngap -1 3\ngauges 5 7\nprices 1 3\n', '5 5\n6 7\n8 8\n', ((4, 5), (6, 6), (8, 9)), True]]
"""


class Examples(unittest.TestCase):

    def holds(self, text):
        parsed = doctest.DocTestParser().get_doctest(text, {}, self.id(), None, None)
        told = []
        outcome = doctest.DocTestRunner(verbose=False).run(parsed, out=told.append)
        self.assertGreater(outcome.attempted, 0)
        self.assertEqual(outcome.failed, 0, "".join(told))

    def test_lots_and_probes(self):
        self.holds(LOTS_AND_PROBES)

    def test_plans(self):
        self.holds(PLANS)

    def test_batches(self):
        self.holds(BATCHES)

    def test_gauges(self):
        self.holds(GAUGES)

    def test_grinds(self):
        self.holds(GRINDS)

    def test_inspectors(self):
        self.holds(INSPECTORS)

    def test_logs_sessions_and_texts(self):
        self.holds(LOGS_SESSIONS_AND_TEXTS)


if __name__ == "__main__":
    unittest.main()
