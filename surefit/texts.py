"""Lots and states as texts, written and read."""

from surefit.checks import (GREATEST_GAP, GREATEST_SIZE, MOST_PARTS, is_gap, is_gauges, is_prices, is_range,
                            is_span_within)
from surefit.errors import BadText
from surefit.lots import Lot, check_lot, check_state


def words_of(value):
    """A range, a gap, gauges or prices as words; `-` stands for what is not there."""
    words = ["-" if number is None else str(number) for number in value]
    return " ".join(words) if words else "-"


def lot_line(label, value):
    return label + " " + words_of(value)


def text_of(lines):
    return "".join([line + "\n" for line in lines])


def lot_text(lot):
    """The text of a lot."""
    check_lot(lot)
    lines = [lot_line("pin", span) for span in lot.pins] + [lot_line("bore", span) for span in lot.bores]
    return text_of(lines + [lot_line("gap", lot.gap), lot_line("gauges", lot.gauges), lot_line("prices", lot.prices)])


def state_text(lot, state):
    """The text of a state of a lot."""
    check_state(lot, state)
    return text_of([words_of(span) for span in state])


def numbers_in(line):
    """The integers among the words of a line, those that no lot can have left out."""
    numbers = {str(number): number for number in range(-GREATEST_GAP, GREATEST_SIZE + 1)}
    return tuple([numbers[word] for word in line.split(" ") if word in numbers])


def is_value(label, value):
    """Whether this can be what a line of a lot with this first word tells."""
    if label == "gap":
        return is_gap(value)
    if label == "gauges":
        return is_gauges(value)
    if label == "prices":
        return is_prices(value)
    return is_range(value)


class Reader:
    """Goes through a text line by line, up to the first one that is wrong."""

    def __init__(self, text):
        if not isinstance(text, str):
            raise BadText(0)
        pieces = text.split("\n")
        # What no line feed terminates is not a line.
        self.lines = pieces[:-1]
        self.remainder = pieces[-1]
        self.row = 0

    def is_at(self, label):
        """Whether the line that comes next begins with this word."""
        return self.row < len(self.lines) and self.lines[self.row].startswith(label + " ")

    def line(self):
        """The line that comes next."""
        if self.row == len(self.lines):
            raise BadText(self.row)
        return self.lines[self.row]

    def take_value(self, label):
        """What the next line tells, which is one of a lot with this first word."""
        value = numbers_in(self.line())
        if label == "prices" and len(value) == 1:
            value = value + (None,)
        # Nothing can be read but what would be written so.
        if not is_value(label, value) or lot_line(label, value) != self.line():
            raise BadText(self.row)
        self.row = self.row + 1
        return value

    def take_ranges(self, label):
        """The ranges of the next lines, which are those of all pins or of all bores."""
        ranges = (self.take_value(label),)
        while len(ranges) < MOST_PARTS and self.is_at(label):
            ranges = ranges + (self.take_value(label),)
        return ranges

    def take_range_within(self, span):
        """The range of the next line, which is one of a state for a part with this range in the lot."""
        value = numbers_in(self.line())
        if not is_span_within(value, span[0], span[1]) or words_of(value) != self.line():
            raise BadText(self.row)
        self.row = self.row + 1
        return value

    def finish(self):
        """Makes sure that nothing comes behind the lines that were taken."""
        if self.row < len(self.lines) or self.remainder != "":
            raise BadText(self.row)


def read_lot(text):
    """The lot that is written so."""
    reader = Reader(text)
    pins = reader.take_ranges("pin")
    bores = reader.take_ranges("bore")
    gap = reader.take_value("gap")
    gauges = reader.take_value("gauges")
    prices = reader.take_value("prices")
    reader.finish()
    return Lot(pins, bores, gap, gauges, prices)


def read_state(lot, text):
    """The state of the lot that is written so."""
    check_lot(lot)
    reader = Reader(text)
    state = ()
    for span in lot.start():
        state = state + (reader.take_range_within(span),)
    reader.finish()
    return state
