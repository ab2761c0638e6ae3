"""The examples of the document's interface, as they are written there."""

import doctest
import unittest

LOTS_AND_PROBES = """
>>> from surefit.lots import Lot, hoped_pairs, sure_pairs, verdict
>>> from surefit.probes import all_tests, results
>>> two = Lot(((4, 5),), ((6, 7), (8, 9)), (3, 3), (5, 7, 9), (1, None))
>>> start = two.start()
>>> found = [sure_pairs(two, start), hoped_pairs(two, start), sure_pairs(two, ((4, 4), (7, 7), (8, 9)))]
>>> [found, [verdict(two, start, many) for many in (1, 2)], verdict(two, ((4, 4), (6, 6), (8, 9)), 1), all_tests(two, start), results(two, start, ('gauge', 1, 7))]
[[[], [(0, 1)], [(0, 1)]], [None, False], False, [('gauge', 0, 5), ('gauge', 1, 7), ('gauge', 2, 9)], [((4, 5), (6, 6), (8, 9)), ((4, 5), (7, 7), (8, 9))]]
"""


class Examples(unittest.TestCase):

    def holds(self, text):
        parsed = doctest.DocTestParser().get_doctest(text, {}, self.id(), None, None)
        told = []
        outcome = doctest.DocTestRunner(verbose=False).run(parsed, out=told.append)
        self.assertGreater(outcome.attempted, 0)
        self.assertEqual(outcome.failed, 0, "".join(told))

    def test_lots_and_probes(self):
        self.holds(LOTS_AND_PROBES)


if __name__ == "__main__":
    unittest.main()
