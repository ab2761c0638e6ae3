"""Point 2: lots."""

import unittest
from itertools import combinations

from surefit.errors import BadLot
from surefit.lots import Lot
from tests.samples import GOOD, STRANGE, lot_with

PARTS = [("PINS", "pins"), ("BORES", "bores"), ("GAP", "gap"), ("GAUGES", "gauges"), ("PRICES", "prices")]

WRONG_RANGES = [(-1, 0), (-1, -1), (30, 31), (31, 31), (0, 4), (26, 30), (5, 4), (4,), (), (4, 5, 6), [4, 5],
                (True, 2), (0, True), (False, False), ("4", "5"), (None, 5), (4, None), "45", b"45", 4, None,
                ((4, 5), (4, 5)), {4: 5}, (10 ** 30, 10 ** 30)]
RIGHT_RANGES = [(0, 0), (0, 3), (30, 30), (27, 30), (1, 1), (29, 30), (4, 5), (4, 6), (4, 7)]

WRONG_GAPS = [(-10, 0), (-10, -10), (0, 10), (10, 10), (1, 0), (9, -9), (3,), (), (3, 3, 3), [3, 3], (True, 3),
              (0, True), (False, False), (None, 3), (3, None), "33", 3, None]
RIGHT_GAPS = [(-9, 9), (-9, -9), (9, 9), (0, 0), (-1, 0), (3, 4)]

WRONG_GAUGES = [(0,), (31,), (0, 1), (30, 31), (1, 2, 3, 4, 5), (2, 1), (1, 1), (5, 7, 7), (1, 3, 2), [], [5], (True,),
                (True, 2), (1, 2, None), ("5",), ((5,),), None, 5, "", {}, {5: 5}, (-1,)]
RIGHT_GAUGES = [(), (1,), (30,), (1, 30), (1, 2, 3, 4), (27, 28, 29, 30)]

WRONG_PRICES = [(0, 1), (10, 1), (-1, None), (1, 0), (1, 10), (1, -1), (None, 1), (None, None), (1,), (), (1, 2, 3),
                [1, 2], (True, 1), (1, True), (1, False), ("1", None), (1, "-"), None, 1, "1-"]
RIGHT_PRICES = [(1, 1), (9, 9), (1, 9), (9, 1), (1, None), (9, None)]


def wrong_part(**changes):
    """The attribute `part` of the error that a lot with these changes gives, or the lot if there is none."""
    try:
        return lot_with(**changes)
    except BadLot as error:
        return error.part


class Limits(unittest.TestCase):

    def refused(self, name, word, values):
        for value in values:
            with self.subTest(name=name, value=value):
                self.assertEqual(wrong_part(**{name: value}), word)

    def taken(self, name, values):
        for value in values:
            with self.subTest(name=name, value=value):
                self.assertEqual(getattr(lot_with(**{name: value}), name), value)

    def test_ranges_of_pins_and_bores(self):
        for word, name in PARTS[:2]:
            self.taken(name, [(span,) for span in RIGHT_RANGES])
            self.refused(name, word, [(span,) for span in WRONG_RANGES])
            self.refused(name, word, [((4, 5), span) for span in WRONG_RANGES])
            self.refused(name, word, [(span, (4, 5), (4, 5)) for span in WRONG_RANGES])

    def test_one_to_three_pins_and_bores(self):
        for word, name in PARTS[:2]:
            self.taken(name, [((4, 5),), ((4, 5), (4, 5)), ((4, 5), (0, 3), (30, 30))])
            self.refused(name, word, [(), ((4, 5),) * 4, [(4, 5)], [], (4, 5), {(4, 5): 0}, "45"])

    def test_gap(self):
        self.taken("gap", RIGHT_GAPS)
        self.refused("gap", "GAP", WRONG_GAPS)

    def test_gauges(self):
        self.taken("gauges", RIGHT_GAUGES)
        self.refused("gauges", "GAUGES", WRONG_GAUGES)

    def test_prices(self):
        self.taken("prices", RIGHT_PRICES)
        self.refused("prices", "PRICES", WRONG_PRICES)

    def test_strange_values(self):
        for word, name in PARTS:
            self.refused(name, word, STRANGE)

    def test_of_two_wrong_parts_the_first_is_named(self):
        for (word, name), (_, other) in combinations(PARTS, 2):
            with self.subTest(name=name, other=other):
                self.assertEqual(wrong_part(**{other: None, name: None}), word)

    def test_all_wrong(self):
        self.assertEqual(wrong_part(**{name: [] for _, name in PARTS}), "PINS")

    def test_a_refused_call_changes_nothing(self):
        lot = lot_with()
        self.assertRaises(BadLot, lot.__init__, ((4, 5),), ((6, 7),), (3, 3), (5,), (0, 0))
        self.assertTrue(lot == lot_with())


class Properties(unittest.TestCase):

    def test_they_are_as_the_parameters(self):
        lot = lot_with()
        self.assertEqual({name: getattr(lot, name) for name in GOOD}, GOOD)
        for name in GOOD:
            self.assertIsInstance(getattr(lot, name), tuple)

    def test_parameters_in_their_order(self):
        lot = Lot(((1, 2),), ((3, 4),), (5, 6), (7, 8), (9, 9))
        found = [lot.pins, lot.bores, lot.gap, lot.gauges, lot.prices]
        self.assertEqual(found, [((1, 2),), ((3, 4),), (5, 6), (7, 8), (9, 9)])

    def test_a_lot_never_changes(self):
        lot = lot_with()
        for name in GOOD:
            with self.subTest(name=name), self.assertRaises(AttributeError):
                setattr(lot, name, GOOD[name])
        self.assertTrue(lot == lot_with())

    def test_len_is_the_number_of_parts(self):
        for pins in (1, 2, 3):
            for bores in (1, 2, 3):
                lot = lot_with(pins=((4, 5),) * pins, bores=((6, 7),) * bores)
                self.assertEqual(len(lot), pins + bores)

    def test_start_is_the_state_with_all_ranges(self):
        self.assertEqual(lot_with().start(), ((4, 5), (6, 7), (8, 9)))
        lot = lot_with(pins=((9, 9), (0, 3)), bores=((2, 4),))
        self.assertEqual(lot.start(), ((9, 9), (0, 3), (2, 4)))
        self.assertEqual(lot.start(), lot.start())

    def test_what_the_class_itself_defines(self):
        for name in ("pins", "bores", "gap", "gauges", "prices"):
            self.assertIsInstance(vars(Lot)[name], property)
        for name in ("__init__", "__len__", "__eq__", "start"):
            self.assertIn(name, vars(Lot))


class Equality(unittest.TestCase):

    def test_equal_if_all_parameters_are(self):
        self.assertIs(lot_with() == lot_with(), True)
        self.assertIs(lot_with() != lot_with(), False)

    def test_not_equal_if_one_parameter_is_not(self):
        others = {"pins": ((4, 4),), "bores": ((6, 7), (8, 8)), "gap": (2, 3), "gauges": (5, 7), "prices": (1, 1)}
        for name, value in others.items():
            with self.subTest(name=name):
                self.assertIs(lot_with() == lot_with(**{name: value}), False)
                self.assertIs(lot_with() != lot_with(**{name: value}), True)

    def test_the_same_parts_with_another_one_as_a_pin(self):
        one = lot_with(pins=((4, 5),), bores=((4, 5), (6, 7)))
        other = lot_with(pins=((4, 5), (4, 5)), bores=((6, 7),))
        self.assertEqual(one.start(), other.start())
        self.assertIs(one == other, False)

    def test_not_equal_to_an_object_of_another_class(self):
        error = BadLot(None)
        self.assertEqual([lot_with() == error, lot_with() != error, error == lot_with()], [False, True, False])


if __name__ == "__main__":
    unittest.main()
