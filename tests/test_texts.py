"""Point 12: texts of lots and states, written and read."""

import re
import unittest
from itertools import product

from surefit.errors import BadLot, BadState, BadText
from surefit.lots import Lot
from surefit.texts import lot_text, read_lot, read_state, state_text
from tests.samples import STRANGE, all_states, lot_with

LOT = Lot(((4, 5),), ((6, 7), (8, 9)), (-1, 3), (5, 7), (1, 3))
TEXT = "pin 4 5\nbore 6 7\nbore 8 9\ngap -1 3\ngauges 5 7\nprices 1 3\n"
LINES = TEXT.split("\n")[:-1]

# Each kind of line stands once at least, with a 0, a negative number and one of two digits.
BROAD = Lot(((0, 0), (4, 7), (27, 30)), ((10, 12), (0, 3)), (-9, 0), (1, 10, 30), (9, 1))
BROAD_LINES = ["pin 0 0", "pin 4 7", "pin 27 30", "bore 10 12", "bore 0 3", "gap -9 0", "gauges 1 10 30", "prices 9 1"]

NO_STRINGS = [None, True, False, 0, 7, b"", b"pin 4 5\n", [], LINES, tuple(LINES), {}, set(), object(), str, LOT]

NUMBER = "(0|-?[1-9][0-9]{0,2})"
FORMS = {"p": f"pin {NUMBER} {NUMBER}", "b": f"bore {NUMBER} {NUMBER}", "g": f"gap {NUMBER} {NUMBER}",
         "a": f"gauges (-|{NUMBER}( {NUMBER})*)", "r": f"prices {NUMBER} (-|{NUMBER})"}
ORDERS = ["p" * pins + "b" * bores + "gar" for pins, bores in product((1, 2, 3), (1, 2, 3))]


def numbers_of(line):
    return [int(word) for word in line.split(" ") if word.lstrip("-").isdigit()]


def are_right_numbers(kind, numbers):
    """Whether these numbers of a line are as the document asks for."""
    if kind == "a":
        return (len(numbers) <= 4 and all(1 <= size <= 30 for size in numbers)
                and all(size < other for size, other in zip(numbers, numbers[1:])))
    if kind == "r":
        return all(1 <= price <= 9 for price in numbers)
    first, last = numbers
    if kind == "g":
        return -9 <= first <= last <= 9
    return 0 <= first <= last <= 30 and last - first <= 3


def kind_of(line):
    """The letter for a line of a lot, a question mark if it is none."""
    for kind, form in FORMS.items():
        if re.fullmatch(form, line) and are_right_numbers(kind, numbers_of(line)):
            return kind
    return "?"


def slow_lot_row(text):
    """The row for a text that is not that of a lot, None if it is one."""
    *lines, remainder = text.split("\n")
    kinds = "".join(map(kind_of, lines))
    for row in range(len(kinds)):
        if not any(order.startswith(kinds[:row + 1]) for order in ORDERS):
            return row
    return None if kinds in ORDERS and not remainder else len(lines)


def slow_state_row(lot, text):
    """The row for a text that is not that of a state, None if it is one."""
    *lines, remainder = text.split("\n")
    for row, line in enumerate(lines):
        if row == len(lot) or not re.fullmatch(f"{NUMBER} {NUMBER}", line):
            return row
        first, last = numbers_of(line)
        if not lot.start()[row][0] <= first <= last <= lot.start()[row][1]:
            return row
    return None if len(lines) == len(lot) and not remainder else len(lines)


def changed_texts(text):
    """This text with a change at one place."""
    for at in range(len(text) + 1):
        yield text[:at]
        yield text[:at] + text[at + 1:]
        for sign in " \n\t\r0139-+p":
            yield text[:at] + sign + text[at:]
            yield text[:at] + sign + text[at + 1:]


def text_of(lines):
    return "".join(line + "\n" for line in lines)


def wrong_forms(line):
    """What is not written as this line has to be, with the same words and numbers or almost so."""
    words = line.split(" ")
    yield from ["", " ", "-", "x", "0", line[1:], line[:-1] + "x", line.upper(), line.title(), "x" + line, "x " + line]
    yield from [line + sign for sign in (" ", "\r", "\t", "\v", "\f", "\x1c", "\x85", "\u2028", " 1", " -", " x", ",")]
    yield from [" " + line, "\t" + line, "\ufeff" + line]
    for sign in ("  ", "\t", "\xa0", ", ", "", "_"):
        for at in range(1, len(words)):
            yield " ".join(words[:at]) + sign + " ".join(words[at:])
    for at in range(len(words)):
        yield " ".join(words[:at] + words[at + 1:])
        yield " ".join(words[:at + 1] + words[at:])
        yield " ".join(words[:at] + ["x"] + words[at + 1:])
        if words[at].lstrip("-").isdigit():
            sign, digits = "-" * words[at].startswith("-"), words[at].lstrip("-")
            strange = ["0" + digits, "00" + digits, "+" + digits, digits + "_", digits + ".0", digits + "e0", digits + "L",
                       "--" + digits, "- " + digits, "0x" + digits, digits[0] + "_" + digits, "9" * 5000,
                       "".join(chr(0x0660 + int(digit)) for digit in digits),
                       "".join(chr(0xff10 + int(digit)) for digit in digits),
                       "".join("\u2070\xb9\xb2\xb3\u2074\u2075\u2076\u2077\u2078\u2079"[int(digit)] for digit in digits)]
            for other in strange:
                yield " ".join(words[:at] + [sign + other] + words[at + 1:])
            yield " ".join(words[:at] + ["\u2212" + digits] + words[at + 1:])
            yield " ".join(words[:at] + ["-0"] + words[at + 1:])


class Writing(unittest.TestCase):

    def test_the_example(self):
        self.assertEqual(lot_text(LOT), TEXT)
        self.assertEqual(state_text(LOT, ((5, 5), (6, 7), (8, 8))), "5 5\n6 7\n8 8\n")

    def test_each_kind_of_line(self):
        self.assertEqual(lot_text(BROAD), text_of(BROAD_LINES))
        self.assertEqual(state_text(BROAD, BROAD.start()), "0 0\n4 7\n27 30\n10 12\n0 3\n")

    def test_without_gauges_or_measures(self):
        for gauges, line in [((), "gauges -"), ((1,), "gauges 1"), ((2, 5, 9, 30), "gauges 2 5 9 30")]:
            self.assertEqual(lot_text(lot_with(gauges=gauges)).split("\n")[4], line)
        for prices, line in [((1, None), "prices 1 -"), ((9, None), "prices 9 -"), ((9, 9), "prices 9 9")]:
            self.assertEqual(lot_text(lot_with(prices=prices)).split("\n")[5], line)

    def test_negative_integers(self):
        for gap, line in [((-9, -9), "gap -9 -9"), ((-9, 9), "gap -9 9"), ((-1, 0), "gap -1 0"), ((0, 0), "gap 0 0")]:
            self.assertEqual(lot_text(lot_with(gap=gap)).split("\n")[3], line)

    def test_kinds_of_values(self):
        self.assertIs(lot_text(LOT).__class__, str)
        self.assertIs(state_text(LOT, LOT.start()).__class__, str)

    def test_refusals(self):
        for lot in STRANGE + [LOT.start(), Lot]:
            for call in (lambda: lot_text(lot), lambda: state_text(lot, None), lambda: read_state(lot, None)):
                with self.subTest(lot=lot), self.assertRaises(BadLot) as caught:
                    call()
                self.assertIsNone(caught.exception.part)
        for state in STRANGE + [((4, 5), (6, 7)), ((4, 6), (6, 7), (8, 9)), [(4, 5), (6, 7), (8, 9)]]:
            self.assertRaises(BadState, state_text, LOT, state)


class ReadingBack(unittest.TestCase):

    def test_lots(self):
        shapes = [((4, 4),), ((0, 3), (27, 30)), ((30, 30), (0, 0), (9, 11))]
        others = product([(-9, 9), (0, 0), (-4, -2)], [(), (1,), (9, 10, 29, 30)], [(1, None), (9, 1), (2, 9)])
        for (pins, bores), (gap, gauges, prices) in product(product(shapes, shapes), list(others)):
            lot = Lot(pins, bores, gap, gauges, prices)
            found = read_lot(lot_text(lot))
            self.assertIs(found.__class__, Lot)
            self.assertTrue(found == lot)
            self.assertEqual([found.pins, found.bores, found.gap, found.gauges, found.prices],
                             [pins, bores, gap, gauges, prices])

    def test_states(self):
        for lot in (LOT, Lot(((0, 3),), ((27, 30),), (0, 0), (), (1, None))):
            for state in all_states(lot):
                found = read_state(lot, state_text(lot, state))
                self.assertEqual([found, found.__class__], [state, tuple])
                self.assertEqual([span.__class__ for span in found], [tuple] * len(lot))

    def test_the_example(self):
        self.assertEqual(read_state(LOT, "4 5\n6 6\n8 9\n"), ((4, 5), (6, 6), (8, 9)))
        self.assertTrue(read_lot(TEXT) == LOT)


class Refusals:
    """What is the same for texts of lots and of states; `read` is what refuses them."""

    def refused(self, text, row, *lot):
        with self.subTest(text=text), self.assertRaises(BadText) as caught:
            self.read(text, *lot)
        self.assertEqual([caught.exception.row, caught.exception.row.__class__], [row, int])

    def test_what_is_not_a_string(self):
        for text in NO_STRINGS:
            self.refused(text, 0)

    def test_an_empty_text(self):
        for text in ("", "\n", "\n\n"):
            self.refused(text, 0)
        self.refused("\n" + TEXT, 0)
        self.refused("\n4 5\n6 7\n8 9\n", 0)


class WrongLots(Refusals, unittest.TestCase):

    def read(self, text):
        return read_lot(text)

    def test_each_kind_of_line(self):
        for row, line in enumerate(BROAD_LINES):
            for wrong in wrong_forms(line):
                text = text_of(BROAD_LINES[:row] + [wrong] + BROAD_LINES[row + 1:])
                right = slow_lot_row(text)
                if right is None:
                    read_lot(text)
                else:
                    self.refused(text, right)
                    self.assertIn(right, (row, row + 1))

    def test_the_forms_that_the_slow_answer_takes(self):
        # So that the wrong forms above are wrong indeed, but for gauges of which one is left out.
        right = [wrong for line in BROAD_LINES for wrong in wrong_forms(line) if kind_of(wrong) != "?"]
        self.assertEqual(right, ["gauges 10 30", "gauges 1 30", "gauges 1 10"])
        self.assertTrue(len([wrong for line in BROAD_LINES for wrong in wrong_forms(line)]) > 500)

    def test_numbers_beyond_their_limits_or_out_of_order(self):
        wrong = {
            0: ["pin -1 0", "pin 5 4", "pin 0 4", "pin 30 31", "pin 31 31", "pin 1 100"],
            1: ["bore -1 0", "bore 7 6", "bore 6 10", "bore 28 31", "bore -3 -2"],
            3: ["gap -10 3", "gap 3 10", "gap 3 -1", "gap 10 10", "gap -10 -10", "gap - 3", "gap -1 -"],
            4: ["gauges 0", "gauges 31", "gauges 7 5", "gauges 5 5", "gauges 1 2 3 4 5", "gauges -5", "gauges",
                "gauges ", "gauges - -", "gauges 5 -", "gauges - 5", "gauges --", "gauges 5 7 6"],
            5: ["prices 0 1", "prices 10 1", "prices 1 0", "prices 1 10", "prices - 1", "prices - -", "prices -1 1",
                "prices 1 -1", "prices 1", "prices -", "prices", "prices 1 - -", "prices 1 3 -", "prices 1 --",
                "prices 1 None"],
        }
        for row, lines in wrong.items():
            for line in lines:
                self.refused(text_of(LINES[:row] + [line] + LINES[row + 1:]), row)

    def test_limits_that_are_kept(self):
        for row, line in [(0, "pin 0 0"), (0, "pin 0 3"), (0, "pin 27 30"), (1, "bore 30 30"), (3, "gap -9 9"),
                          (3, "gap -9 -9"), (3, "gap 0 0"), (4, "gauges -"), (4, "gauges 1 2 3 30"), (5, "prices 9 -"),
                          (5, "prices 9 9"), (5, "prices 1 1")]:
            text = text_of(LINES[:row] + [line] + LINES[row + 1:])
            self.assertEqual(lot_text(read_lot(text)), text)

    def test_a_fourth_pin_or_bore(self):
        self.assertEqual(len(read_lot(text_of(["pin 4 5"] * 3 + ["bore 6 7"] * 3 + LINES[3:]))), 6)
        self.refused(text_of(["pin 4 5"] * 4 + LINES[1:]), 3)
        self.refused(text_of(["pin 4 5"] * 5), 3)
        self.refused(text_of(LINES[:1] + ["bore 6 7"] * 4 + LINES[3:]), 4)
        self.refused(text_of(["pin 4 5"] * 3 + ["bore 6 7"] * 4 + LINES[3:]), 6)

    def test_missing_lines(self):
        for many in range(6):
            self.refused(text_of(LINES[:many]), many)
        for row in range(6):
            text = text_of(LINES[:row] + LINES[row + 1:])
            self.assertEqual(slow_lot_row(text), {1: None, 2: None, 5: 5}.get(row, row))
            if row not in (1, 2):
                self.refused(text, slow_lot_row(text))
        self.refused(text_of(LINES[:1] + LINES[3:]), 1)

    def test_lines_in_another_order(self):
        for one, other in product(range(6), range(6)):
            lines = list(LINES)
            lines[one], lines[other] = lines[other], lines[one]
            row = slow_lot_row(text_of(lines))
            if row is None:
                self.assertIn((one, other), [(1, 2), (2, 1)] + [(at, at) for at in range(6)])
            else:
                self.refused(text_of(lines), row)
        # A gap can stand behind one bore, but no bore behind the gap.
        self.refused(text_of(LINES[:2] + [LINES[3], LINES[2]] + LINES[4:]), 3)
        self.refused(text_of(LINES[:3] + [LINES[4], LINES[3]] + LINES[5:]), 3)
        self.refused(text_of(LINES[1:2] + LINES[:1] + LINES[2:]), 0)

    def test_further_lines(self):
        for line in ["", " ", "prices 1 3", "pin 4 5", "x", LINES[3]]:
            self.refused(TEXT + line + "\n", 6)
            self.refused(TEXT + line + "\n" + line, 6)
        self.refused(TEXT + TEXT, 6)

    def test_a_last_line_without_a_line_feed(self):
        self.refused(TEXT[:-1], 5)
        self.refused("pin 4 5", 0)
        self.refused("pin 4 5\nbore 6 7", 1)
        for remainder in (" ", "x", "prices 1 3", "\r", "\0"):
            self.refused(TEXT + remainder, 6)

    def test_of_several_wrong_lines_the_first_one(self):
        for one, other in product(range(6), range(6)):
            lines = ["x" if row in (one, other) else line for row, line in enumerate(LINES)]
            self.refused(text_of(lines), min(one, other))
            self.refused(text_of(lines)[:-1], min(one, other, 5))
            self.refused(text_of(lines) + "x", min(one, other))

    def test_other_line_ends(self):
        for sign in ("\r\n", "\r", "\n\r", "\n\n", "\v", "\f", "\u2028", "\x85", ";"):
            text = TEXT.replace("\n", sign)
            self.refused(text, slow_lot_row(text))
            self.assertIn(slow_lot_row(text), (0, 1))

    def test_all_changes_at_one_place(self):
        rows = []
        for text in changed_texts(TEXT):
            row = slow_lot_row(text)
            rows.append(row)
            if row is None:
                self.assertEqual(lot_text(read_lot(text)), text)
            else:
                self.refused(text, row)
        self.assertEqual(sorted(set(rows) - {None}), list(range(7)))
        self.assertIn(None, rows)


class WrongStates(Refusals, unittest.TestCase):

    def read(self, text, lot=LOT):
        return read_state(lot, text)

    def test_each_line(self):
        lines = state_text(BROAD, BROAD.start()).split("\n")[:-1]
        for row, line in enumerate(lines):
            for wrong in wrong_forms(line):
                text = text_of(lines[:row] + [wrong] + lines[row + 1:])
                if slow_state_row(BROAD, text) is None:
                    # Upper case is no change where there are no letters.
                    self.assertEqual(wrong, line)
                    self.assertEqual(state_text(BROAD, read_state(BROAD, text)), text)
                else:
                    self.refused(text, row, BROAD)

    def test_ranges_beyond_that_of_the_part_or_out_of_order(self):
        for row, lines in [(0, ["3 4", "3 5", "4 6", "5 6", "5 4", "6 6", "-4 5", "6 7"]),
                           (1, ["5 6", "6 8", "7 6", "8 8", "8 9", "4 5"]), (2, ["7 8", "8 10", "9 8", "7 7"])]:
            for line in lines:
                self.refused(text_of(["4 5", "6 7", "8 9"][:row] + [line] + ["6 7", "8 9"][row:]), row)

    def test_words_before_the_sizes(self):
        self.refused("pin 4 5\nbore 6 7\nbore 8 9\n", 0)
        self.refused("4 5\nbore 6 7\n8 9\n", 1)
        self.refused(TEXT, 0)

    def test_missing_and_further_lines(self):
        for many, text in enumerate(["", "4 5\n", "4 5\n6 7\n"]):
            self.refused(text, many)
            self.refused(text + "8 9", many)
        for further in ["\n", "8 9\n", "x\n", "x\nx", " \n"]:
            self.refused("4 5\n6 7\n8 9\n" + further, 3)

    def test_a_last_line_without_a_line_feed(self):
        self.refused("4 5\n6 7\n8 9", 2)
        self.refused("4 5\n6 7\n8 9\n ", 3)
        self.refused("4 5\n6 7\n8 9\n8 9", 3)

    def test_of_several_wrong_lines_the_first_one(self):
        self.refused("x\n6 7\nx\n", 0)
        self.refused("4 5\nx\nx\n", 1)
        self.refused("4 5\nx\n8 9\nx\nx", 1)
        self.refused("4 5\nx", 1)

    def test_other_line_ends(self):
        for sign in ("\r\n", "\r", "\n\r", "\n\n", "\v", "\u2028"):
            text = "4 5\n6 7\n8 9\n".replace("\n", sign)
            self.refused(text, slow_state_row(LOT, text))

    def test_all_changes_at_one_place(self):
        rows = []
        for lot, text in [(LOT, "4 5\n6 7\n8 9\n"), (LOT, "4 4\n7 7\n8 9\n"),
                          (Lot(((9, 11),), ((0, 3),), (0, 0), (), (1, None)), "9 11\n0 1\n")]:
            for changed in changed_texts(text):
                row = slow_state_row(lot, changed)
                rows.append(row)
                if row is None:
                    self.assertEqual(state_text(lot, read_state(lot, changed)), changed)
                else:
                    self.refused(changed, row, lot)
        self.assertEqual(sorted(set(rows) - {None}), list(range(4)))
        self.assertIn(None, rows)

    def test_the_lot_is_checked_first(self):
        self.assertRaises(BadLot, read_state, None, None)
        self.assertRaises(BadLot, read_state, TEXT, "x")
        self.refused(None, 0)


if __name__ == "__main__":
    unittest.main()
