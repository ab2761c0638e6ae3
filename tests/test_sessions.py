"""Point 11: sessions, undoing, branches and trials."""

import unittest
from itertools import product

from surefit.errors import BadLot, BadSizes, BadTest, BadTests, NothingDone
from surefit.logs import after_log, spent
from surefit.lots import Lot
from surefit.sessions import Session
from tests.samples import STRANGE, all_sizes, lot_with, slow_price, slow_result_index, slow_results, slow_tests
from tests.test_logs import LONG, WIDE
from tests.test_probes import WRONG_TESTS

LOT = Lot(((4, 5),), ((6, 7), (8, 9)), (-1, 3), (5, 7), (1, 3))
SIZES = (5, 6, 9)
FIRST, SECOND, THIRD = ("gauge", 0, 5), ("measure", 2), ("gauge", 1, 7)
PAIRS = [(FIRST, 1), (SECOND, 1), (THIRD, 0)]
STATES = [LOT.start(), ((5, 5), (6, 7), (8, 9)), ((5, 5), (6, 7), (9, 9)), ((5, 5), (6, 6), (9, 9))]
COSTS = [0, 1, 4, 5]


class Stop(Exception):
    pass


def session_after(many):
    session = Session(LOT, SIZES)
    for test in (FIRST, SECOND, THIRD)[:many]:
        session.test(test)
    return session


def told(session):
    """All that can be seen of a session."""
    return [session.known, session.journal, list(session), len(session), session.paid()]


def after(many):
    """All that can be seen of a session after so many of the three tests."""
    return [STATES[many], PAIRS[:many], PAIRS[:many], many, COSTS[many]]


def undone(session):
    """All pairs that can be undone, the last one first."""
    found = []
    while True:
        try:
            found.append(session.undo())
        except NothingDone:
            return found


class Making(unittest.TestCase):

    def test_at_first(self):
        self.assertEqual(told(Session(LOT, SIZES)), after(0))
        self.assertEqual(told(Session(lot=LOT, sizes=SIZES)), after(0))

    def test_all_sizes_of_the_lot(self):
        for sizes in all_sizes(LOT.start()):
            self.assertEqual(Session(LOT, sizes).known, LOT.start())

    def test_not_such_sizes(self):
        wrong = [(), (5,), (5, 6), (5, 6, 9, 9), [5, 6, 9], (3, 6, 9), (6, 6, 9), (5, 5, 9), (5, 8, 9), (5, 6, 7),
                 (5, 6, 10), (-5, 6, 9), (5, 6, None), ("5", 6, 9), ((5,), 6, 9), (5, 6, 10 ** 30), ([5], 6, 9),
                 ((5, 5), (6, 6), (9, 9)), LOT.start(), LOT, {5: 0, 6: 0, 9: 0}]
        for sizes in wrong + STRANGE:
            with self.subTest(sizes=sizes):
                self.assertRaises(BadSizes, Session, LOT, sizes)

    def test_booleans_are_no_sizes(self):
        lot = Lot(((0, 1),), ((0, 1),), (0, 0), (1,), (1, None))
        self.assertEqual(Session(lot, (1, 0)).known, lot.start())
        for sizes in [(True, 0), (1, False), (True, False)]:
            self.assertRaises(BadSizes, Session, lot, sizes)

    def test_not_a_lot(self):
        for lot in STRANGE + [LOT.start(), Lot]:
            with self.subTest(lot=lot), self.assertRaises(BadLot) as caught:
                Session(lot, None)
            self.assertIsNone(caught.exception.part)


class Testing(unittest.TestCase):

    def test_the_example(self):
        session = Session(LOT, SIZES)
        self.assertEqual([session.test(FIRST), session.known], [1, STATES[1]])
        self.assertEqual(session.tried([THIRD, SECOND]), [0, 1])
        self.assertEqual([session.test(SECOND), session.paid(), list(session)], [1, 4, PAIRS[:2]])
        self.assertEqual([session.undo(), len(session)], [PAIRS[1], 1])

    def test_one_after_the_other(self):
        session = Session(LOT, SIZES)
        for many, (test, index) in enumerate(PAIRS):
            self.assertEqual(told(session), after(many))
            self.assertEqual(session.test(test), index)
        self.assertEqual(told(session), after(3))

    def test_the_result_of_a_gauge(self):
        lot = Lot(((4, 7),), ((20, 20),), (0, 0), (5, 6, 7), (1, None))
        for size, gauge in product((4, 5, 6, 7), (5, 6, 7)):
            session = Session(lot, (size, 20))
            self.assertEqual(session.test(("gauge", 0, gauge)), 1 if size >= gauge else 0)
            self.assertEqual(session.known, ((gauge, 7) if size >= gauge else (4, gauge - 1), (20, 20)))

    def test_the_result_of_a_measure(self):
        lot = Lot(((4, 7),), ((20, 20),), (0, 0), (), (1, 1))
        for size in (4, 5, 6, 7):
            session = Session(lot, (size, 20))
            self.assertEqual(session.test(("measure", 0)), size - 4)
            self.assertEqual(session.known, ((size, size), (20, 20)))

    def test_a_measure_after_a_gauge(self):
        lot = Lot(((4, 7),), ((20, 20),), (0, 0), (5,), (1, 1))
        session = Session(lot, (6, 20))
        self.assertEqual([session.test(("gauge", 0, 5)), session.test(("measure", 0))], [1, 1])
        self.assertEqual(session.journal, [(("gauge", 0, 5), 1), (("measure", 0), 1)])

    def test_all_sizes_and_tests(self):
        for sizes in all_sizes(LOT.start()):
            session, state, cost = Session(LOT, sizes), LOT.start(), 0
            while tests := slow_tests(LOT, state):
                test = tests[sum(sizes) % len(tests)]
                index = slow_result_index(state, test, sizes)
                state, cost = slow_results(state, test)[index], cost + slow_price(LOT, test)
                self.assertEqual([session.test(test), session.known, session.paid()], [index, state, cost])
            self.assertEqual(after_log(LOT, LOT.start(), session.journal), state)
            self.assertEqual(sum(spent(LOT, LOT.start(), session.journal)), cost)
            self.assertEqual(state, tuple((size, size) for size in sizes))

    def test_a_settled_state_can_be_tested(self):
        session = Session(lot_with(gap=(-9, 9)), (4, 7, 9))
        self.assertEqual([session.test(("gauge", 1, 7)), session.known], [1, ((4, 5), (7, 7), (8, 9))])

    def test_more_than_twelve_pairs(self):
        session = Session(WIDE, (7,) * 6)
        for test, index in LONG:
            self.assertEqual(session.test(test), index)
        self.assertEqual([len(session), session.journal, session.paid()], [18, LONG, 36])
        self.assertEqual(session.known, ((7, 7),) * 6)
        self.assertEqual(undone(session), LONG[::-1])

    def test_not_a_test_that_is_possible(self):
        for prices in ((1, None), (1, 3)):
            session = Session(lot_with(prices=prices), SIZES)
            for test in WRONG_TESTS + STRANGE:
                with self.subTest(test=test):
                    self.assertRaises(BadTest, session.test, test)
            self.assertEqual(told(session), [session.known, [], [], 0, 0])

    def test_a_test_that_is_not_possible_any_more(self):
        session = session_after(2)
        for test in [FIRST, SECOND, ("measure", 0)]:
            self.assertRaises(BadTest, session.test, test)
            self.assertEqual(told(session), after(2))

    def test_a_refused_test_changes_nothing(self):
        for many in range(4):
            session = session_after(many)
            for test in [("gauge", 0, 6), None, ["gauge", 1, 7], ("gauge", True, 7)]:
                self.assertRaises(BadTest, session.test, test)
            self.assertEqual(told(session), after(many))
            self.assertEqual(undone(session), PAIRS[:many][::-1])


class Seeing(unittest.TestCase):

    def test_the_journal_is_a_new_list_each_time(self):
        session = session_after(2)
        found = session.journal
        self.assertIs(found.__class__, list)
        self.assertIsNot(session.journal, found)
        found.clear()
        session.journal.append(None)
        self.assertEqual(told(session), after(2))
        found = session.journal
        session.test(THIRD)
        self.assertEqual(found, PAIRS[:2])
        session.undo()
        session.undo()
        self.assertEqual(found, PAIRS[:2])

    def test_kinds_of_values(self):
        session = session_after(3)
        self.assertEqual([pair.__class__ for pair in session.journal], [tuple] * 3)
        self.assertEqual([session.known.__class__, session.paid().__class__, len(session).__class__],
                         [tuple, int, int])
        for test, index in session:
            self.assertEqual([test.__class__, index.__class__], [tuple, int])

    def test_iterating_each_time_anew(self):
        session = session_after(3)
        self.assertEqual([list(session), list(session), [pair for pair in session]], [PAIRS] * 3)
        one, other = iter(session), iter(session)
        self.assertEqual([next(one), next(one), next(other)], [PAIRS[0], PAIRS[1], PAIRS[0]])
        self.assertEqual(list(Session(LOT, SIZES)), [])

    def test_the_state_and_the_journal_cannot_be_assigned(self):
        session = session_after(1)
        for name in ("known", "journal"):
            with self.assertRaises(AttributeError):
                setattr(session, name, [])

    def test_what_is_defined_in_the_class_itself(self):
        for name in ["__init__", "__len__", "__iter__", "known", "journal", "test", "paid", "undo", "branch", "trial",
                     "tried"]:
            self.assertIn(name, vars(Session))
        for name in ("known", "journal"):
            self.assertIs(vars(Session)[name].__class__, property)

    def test_what_it_paid(self):
        self.assertEqual([session_after(many).paid() for many in range(4)], COSTS)


class Undoing(unittest.TestCase):

    def test_the_last_pair_first(self):
        session = session_after(3)
        for many in (2, 1, 0):
            self.assertEqual(session.undo(), PAIRS[many])
            self.assertEqual(told(session), after(many))

    def test_nothing_to_undo(self):
        session = Session(LOT, SIZES)
        for _ in range(2):
            self.assertRaises(NothingDone, session.undo)
            self.assertEqual(told(session), after(0))
        session.test(FIRST)
        session.undo()
        self.assertRaises(NothingDone, session.undo)
        self.assertEqual(told(session), after(0))

    def test_as_if_it_had_not_been_played(self):
        session = session_after(3)
        for _ in range(3):
            session.undo()
        for test, index in PAIRS:
            self.assertEqual(session.test(test), index)
        self.assertEqual(told(session), after(3))
        session.undo()
        session.undo()
        self.assertEqual(session.test(THIRD), 0)
        self.assertEqual(session.journal, [PAIRS[0], PAIRS[2]])


class Branches(unittest.TestCase):

    def test_as_far_as_the_session(self):
        for many in range(4):
            session = session_after(many)
            found = session.branch()
            self.assertIs(found.__class__, Session)
            self.assertIsNot(found, session)
            self.assertEqual(told(found), after(many))
            self.assertEqual(undone(found), PAIRS[:many][::-1])
            self.assertEqual([told(found), told(session)], [after(0), after(many)])

    def test_independent_both_ways(self):
        session = session_after(1)
        branch = session.branch()
        branch.test(SECOND)
        self.assertEqual([told(session), told(branch)], [after(1), after(2)])
        session.undo()
        self.assertEqual([told(session), told(branch)], [after(0), after(2)])
        branch.undo()
        branch.undo()
        session.test(FIRST)
        session.test(SECOND)
        session.test(THIRD)
        self.assertEqual([told(session), told(branch)], [after(3), after(0)])

    def test_the_same_sizes(self):
        for sizes in all_sizes(LOT.start()):
            branch = Session(LOT, sizes).branch()
            found = [branch.test(test) for test in (FIRST, SECOND, THIRD)]
            self.assertEqual(found, [sizes[0] - 4, sizes[2] - 8, sizes[1] - 6])

    def test_branches_of_branches(self):
        session = session_after(1)
        one = session.branch()
        one.test(SECOND)
        other = one.branch()
        other.test(THIRD)
        self.assertEqual([told(each) for each in (session, one, other)], [after(1), after(2), after(3)])

    def test_within_a_trial_all_pairs_can_be_undone(self):
        session = session_after(1)
        with session.trial():
            session.test(SECOND)
            branch = session.branch()
            self.assertEqual(told(branch), after(2))
            self.assertEqual(undone(branch), [PAIRS[1], PAIRS[0]])
            self.assertEqual([told(session), told(branch)], [after(2), after(0)])
            self.assertEqual(undone(session), [PAIRS[1]])

    def test_a_branch_outlives_the_trial(self):
        session = session_after(1)
        with session.trial():
            session.test(SECOND)
            branch = session.branch()
            branch.test(THIRD)
        self.assertEqual([told(session), told(branch)], [after(1), after(3)])
        self.assertEqual(undone(branch), PAIRS[::-1])

    def test_the_trial_of_a_branch(self):
        session = session_after(1)
        branch = session.branch()
        with branch.trial() as inner:
            self.assertIs(inner, branch)
            branch.test(SECOND)
            session.undo()
            self.assertEqual(undone(branch), [PAIRS[1]])
        self.assertEqual([told(session), told(branch)], [after(0), after(1)])


class Trials(unittest.TestCase):

    def test_it_gives_the_session_itself(self):
        session = session_after(1)
        with session.trial() as inner:
            self.assertIs(inner, session)

    def test_it_ends_in_order(self):
        session = session_after(1)
        with session.trial():
            self.assertEqual(told(session), after(1))
            self.assertEqual([session.test(SECOND), session.test(THIRD)], [1, 0])
            self.assertEqual(told(session), after(3))
        self.assertEqual(told(session), after(1))
        self.assertEqual(undone(session), [PAIRS[0]])

    def test_it_ends_by_an_error(self):
        session = session_after(1)
        error = Stop("why")
        with self.assertRaises(Stop) as caught:
            with session.trial():
                session.test(SECOND)
                raise error
        self.assertIs(caught.exception, error)
        self.assertEqual(told(session), after(1))
        self.assertEqual(undone(session), [PAIRS[0]])

    def test_errors_of_the_session_are_passed_on(self):
        session = session_after(1)
        with self.assertRaises(BadTest):
            with session.trial():
                session.test(SECOND)
                session.test(SECOND)
        self.assertEqual(told(session), after(1))
        for error in (KeyError, StopIteration, KeyboardInterrupt, SystemExit, GeneratorExit):
            with self.assertRaises(error):
                with session.trial():
                    session.test(SECOND)
                    raise error
            self.assertEqual(told(session), after(1))

    def test_it_is_left_early(self):
        session = session_after(1)

        def leave():
            with session.trial():
                session.test(SECOND)
                return session.paid()

        self.assertEqual(leave(), 4)
        self.assertEqual(told(session), after(1))
        for _ in range(2):
            with session.trial():
                session.test(SECOND)
                continue
        self.assertEqual(told(session), after(1))
        while True:
            with session.trial():
                session.test(SECOND)
                break
        self.assertEqual(told(session), after(1))

    def test_only_its_own_pairs_can_be_undone(self):
        session = session_after(1)
        with session.trial():
            self.assertRaises(NothingDone, session.undo)
            session.test(SECOND)
            session.test(THIRD)
            self.assertEqual([session.undo(), session.undo()], [PAIRS[2], PAIRS[1]])
            self.assertRaises(NothingDone, session.undo)
            self.assertEqual(told(session), after(1))
            session.test(SECOND)
            self.assertEqual(session.undo(), PAIRS[1])
        self.assertEqual(told(session), after(1))
        self.assertEqual(session.undo(), PAIRS[0])

    def test_nothing_to_undo_ends_it_like_any_error(self):
        session = session_after(2)
        with self.assertRaises(NothingDone):
            with session.trial():
                session.undo()
        self.assertEqual(told(session), after(2))
        self.assertEqual(undone(session), PAIRS[:2][::-1])

    def test_trials_within_one_another(self):
        session = session_after(1)
        with session.trial():
            session.test(SECOND)
            with session.trial() as inner:
                self.assertIs(inner, session)
                self.assertRaises(NothingDone, session.undo)
                session.test(THIRD)
                self.assertEqual(told(session), after(3))
                self.assertEqual(session.undo(), PAIRS[2])
                self.assertRaises(NothingDone, session.undo)
                session.test(THIRD)
            self.assertEqual(told(session), after(2))
            self.assertEqual(session.undo(), PAIRS[1])
            self.assertRaises(NothingDone, session.undo)
            self.assertEqual(told(session), after(1))
        self.assertEqual(told(session), after(1))
        self.assertEqual(session.undo(), PAIRS[0])

    def test_an_error_leaves_all_trials_around_it(self):
        session = session_after(1)
        with self.assertRaises(Stop):
            with session.trial():
                session.test(SECOND)
                with session.trial():
                    session.test(THIRD)
                    raise Stop
        self.assertEqual(told(session), after(1))
        with session.trial():
            session.test(SECOND)
            with self.assertRaises(Stop):
                with session.trial():
                    session.test(THIRD)
                    raise Stop
            self.assertEqual(told(session), after(2))
            self.assertEqual(undone(session), [PAIRS[1]])
        self.assertEqual(told(session), after(1))

    def test_in_a_with_block_of_several(self):
        session = session_after(0)
        with session.trial(), session.trial() as inner:
            inner.test(FIRST)
            self.assertEqual(told(session), after(1))
        self.assertEqual(told(session), after(0))

    def test_a_trial_that_is_not_entered_changes_nothing(self):
        session = session_after(1)
        session.trial()
        self.assertEqual(session.undo(), PAIRS[0])
        trial = session.trial()
        session.test(FIRST)
        # Its beginning is that of the block.
        with trial:
            session.test(SECOND)
        self.assertEqual(told(session), after(1))
        with trial:
            session.test(SECOND)
            session.test(THIRD)
        self.assertEqual(told(session), after(1))

    def test_at_the_end_undone_pairs_do_not_come_back(self):
        session = session_after(3)
        session.undo()
        with session.trial():
            session.test(THIRD)
            session.undo()
        self.assertEqual(told(session), after(2))

    def test_other_sessions_go_on(self):
        session, other = session_after(1), session_after(1)
        with session.trial():
            session.test(SECOND)
            other.test(SECOND)
        self.assertEqual([told(session), told(other)], [after(1), after(2)])


class Tried(unittest.TestCase):

    def test_the_indices(self):
        session = session_after(1)
        for tests in ([SECOND, THIRD], (SECOND, THIRD)):
            found = session.tried(tests)
            self.assertEqual([found, found.__class__], [[1, 0], list])
            self.assertEqual(told(session), after(1))
        self.assertEqual([session.tried([THIRD]), session.tried([]), session.tried(())], [[0], [], []])
        self.assertEqual(undone(session), [PAIRS[0]])

    def test_the_sizes_tell(self):
        for sizes in all_sizes(LOT.start()):
            session = Session(LOT, sizes)
            found = session.tried([SECOND, ("measure", 0), THIRD])
            self.assertEqual(found, [sizes[2] - 8, sizes[0] - 4, sizes[1] - 6])

    def test_what_is_possible_only_after_the_others(self):
        lot = Lot(((4, 7),), ((20, 20),), (0, 0), (5, 6, 7), (1, 1))
        session = Session(lot, (6, 20))
        self.assertEqual(session.tried([("gauge", 0, 5), ("gauge", 0, 7), ("measure", 0)]), [1, 0, 1])
        self.assertEqual([session.known, len(session)], [lot.start(), 0])

    def refused(self, session, tests, index):
        before = told(session)
        with self.subTest(tests=tests), self.assertRaises(BadTests) as caught:
            session.tried(tests)
        self.assertEqual(caught.exception.index, index)
        self.assertEqual(told(session), before)

    def test_a_test_that_is_not_possible(self):
        session = session_after(1)
        self.refused(session, [FIRST], 0)
        self.refused(session, [SECOND, SECOND], 1)
        self.refused(session, (SECOND, THIRD, ("measure", 1)), 2)
        self.refused(session, [SECOND, None, None], 1)
        self.assertEqual(undone(session), [PAIRS[0]])

    def test_what_is_no_test(self):
        session = Session(lot_with(prices=(1, 3)), SIZES)
        for test in WRONG_TESTS + STRANGE:
            self.refused(session, [test], 0)
            self.refused(session, [("measure", 1), test, FIRST], 1)

    def test_not_a_list_or_tuple(self):
        for tests in [None, True, 0, "", "gauge", b"", {}, set(), {FIRST: 0}, frozenset([FIRST]), object(),
                      iter([FIRST]), range(0), Session(LOT, SIZES)]:
            self.refused(session_after(0), tests, None)

    def test_a_test_in_the_place_of_a_list(self):
        self.refused(session_after(0), FIRST, 0)

    def test_up_to_twelve_tests(self):
        session, tests = Session(WIDE, (7,) * 6), [test for test, _ in LONG]
        for many in range(13):
            self.assertEqual(session.tried(tests[:many]), [1] * many)
            self.assertEqual(session.tried(tuple(tests[:many])), [1] * many)
        for many in (13, 18):
            self.refused(session, tests[:many], None)
            self.refused(session, tuple(tests[:many]), None)
        self.refused(session, [None] * 13, None)
        self.refused(session, [None] * 12, 0)
        self.refused(session, tests[:11] + [tests[0]], 11)

    def test_within_a_trial(self):
        session = session_after(1)
        with session.trial():
            session.test(SECOND)
            self.assertEqual(session.tried([THIRD]), [0])
            self.refused(session, [SECOND], 0)
            self.assertEqual(told(session), after(2))
            self.assertEqual(undone(session), [PAIRS[1]])
        self.assertEqual(told(session), after(1))

    def test_the_list_is_not_changed(self):
        session, tests = session_after(0), [FIRST, SECOND]
        found = session.tried(tests)
        found.clear()
        self.assertEqual([tests, session.tried(tests)], [[FIRST, SECOND], [1, 1]])


class Equality(unittest.TestCase):

    def test_objects_of_other_classes(self):
        session = session_after(0)
        for other in (LOT, session.trial(), None, [], ()):
            self.assertEqual([session == other, session != other], [False, True])

    def test_arguments_by_name(self):
        session = Session(LOT, SIZES)
        self.assertEqual([session.test(test=FIRST), session.tried(tests=[SECOND])], [1, [1]])


if __name__ == "__main__":
    unittest.main()
