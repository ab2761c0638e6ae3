"""Sessions: tests that are made one after the other on parts of certain sizes, and can be taken back."""

from surefit.checks import are_sizes_within, is_short_sequence
from surefit.errors import BadSizes, BadTests, NothingDone
from surefit.lots import check_lot
from surefit.probes import check_test, is_possible_test, outcome_index, outcomes, test_price


class Trial:
    """A with-block at whose end a session is as at its beginning."""

    def __init__(self, session):
        self.session = session

    def __enter__(self):
        session = self.session
        self.pairs = session.pairs
        self.states = session.states
        self.fixed = session.fixed
        session.fixed = len(session.pairs)
        return session

    def __exit__(self, kind, value, trace):
        session = self.session
        session.pairs = self.pairs
        session.states = self.states
        session.fixed = self.fixed


class Session:
    """Parts of a lot with certain sizes, what is known of them, and the tests that told it."""

    def __init__(self, lot, sizes):
        check_lot(lot)
        if not are_sizes_within(sizes, lot.start()):
            raise BadSizes("not a size for each part, within its range")
        self.lot = lot
        self.sizes = sizes
        # These tuples are replaced, never changed, so that trials and branches can hold on to them.
        self.pairs = ()
        self.states = (lot.start(),)
        # How many pairs cannot be undone now, since they are older than the trial.
        self.fixed = 0

    @property
    def known(self):
        return self.states[-1]

    @property
    def journal(self):
        return list(self.pairs)

    def __len__(self):
        return len(self.pairs)

    def __iter__(self):
        return iter(self.pairs)

    def test(self, test):
        """Makes a test and returns the index of its result."""
        state = self.known
        check_test(self.lot, state, test)
        index = outcome_index(state, test, self.sizes)
        self.pairs = self.pairs + ((test, index),)
        self.states = self.states + (outcomes(state, test)[index],)
        return index

    def paid(self):
        """The sum of the prices of all tests of the journal."""
        return sum([test_price(self.lot, test) for test, _ in self.pairs])

    def undo(self):
        """Takes back the last pair of the journal and returns it."""
        if len(self.pairs) == self.fixed:
            raise NothingDone("there is no test that can be undone")
        pair = self.pairs[-1]
        self.pairs = self.pairs[:-1]
        self.states = self.states[:-1]
        return pair

    def branch(self):
        """An independent session that has come as far as this one."""
        twin = Session(self.lot, self.sizes)
        twin.pairs = self.pairs
        twin.states = self.states
        return twin

    def trial(self):
        """What a with-block takes for all that is done in it to be taken back."""
        return Trial(self)

    def tried(self, tests):
        """Makes tests in a trial and returns the list of the indices of their results."""
        if not is_short_sequence(tests):
            raise BadTests(None)
        indices = []
        with self.trial():
            for index, test in enumerate(tests):
                if not is_possible_test(self.lot, self.known, test):
                    raise BadTests(index)
                indices.append(self.test(test))
        return indices
