"""Lots of pins and bores, their states, and the pairs that surely fit or can fit in a state."""

from surefit.checks import is_gap, is_gauges, is_integer_within, is_prices, is_ranges, is_span_within
from surefit.errors import BadLot, BadMany, BadState

MOST_PAIRS = 3


class Lot:
    """Pins and bores with the ranges of their sizes, the gap in which they fit, the gauges, and the prices."""

    def __init__(self, pins, bores, gap, gauges, prices):
        part = wrong_part(pins, bores, gap, gauges, prices)
        if part is not None:
            raise BadLot(part)
        self._pins = pins
        self._bores = bores
        self._gap = gap
        self._gauges = gauges
        self._prices = prices
        self._ranges = pins + bores

    @property
    def pins(self):
        return self._pins

    @property
    def bores(self):
        return self._bores

    @property
    def gap(self):
        return self._gap

    @property
    def gauges(self):
        return self._gauges

    @property
    def prices(self):
        return self._prices

    def __len__(self):
        return len(self._ranges)

    def __eq__(self, other):
        return (isinstance(other, Lot) and self._pins == other._pins and self._bores == other._bores
                and self._gap == other._gap and self._gauges == other._gauges and self._prices == other._prices)

    def start(self):
        """The state with all ranges of the lot."""
        return self._ranges


def wrong_part(pins, bores, gap, gauges, prices):
    """The word for the first of the parameters of a lot that is not as it must be, None if there is none."""
    if not is_ranges(pins):
        return "PINS"
    if not is_ranges(bores):
        return "BORES"
    if not is_gap(gap):
        return "GAP"
    if not is_gauges(gauges):
        return "GAUGES"
    if not is_prices(prices):
        return "PRICES"
    return None


def is_state(lot, state):
    whole = lot.start()
    if not isinstance(state, tuple) or len(state) != len(whole):
        return False
    return all([is_span_within(span, first, last) for span, (first, last) in zip(state, whole)])


def check_lot(lot):
    if not isinstance(lot, Lot):
        raise BadLot(None)


def check_state(lot, state):
    """Raises the error for a lot that is none, then that for a state that is none of the lot."""
    check_lot(lot)
    if not is_state(lot, state):
        raise BadState("not a state of the lot")


def check_many(many):
    if not is_integer_within(many, 1, MOST_PAIRS):
        raise BadMany("not a number of pairs from 1 to 3")


def surely_fits(gap, pin, bore):
    """Whether a pin fits a bore for all sizes in these two ranges."""
    return gap[0] <= bore[0] - pin[1] and bore[1] - pin[0] <= gap[1]


def can_fit(gap, pin, bore):
    """Whether a pin fits a bore for some sizes in these two ranges."""
    # The differences of the sizes are all integers between the two bounds, none is left out.
    return bore[0] - pin[1] <= gap[1] and gap[0] <= bore[1] - pin[0]


def fitting_pairs(lot, ranges, fits):
    """All pairs of a pin and a bore that fit with these ranges, ascending, also those with common parts."""
    pins = len(lot.pins)
    return [(pin, bore) for pin in range(pins) for bore in range(pins, len(ranges))
            if fits(lot.gap, ranges[pin], ranges[bore])]


def longest_choice(pairs):
    """As many of these ascending pairs as possible without a common part: of several such lists, the first one."""
    best = []
    for at, (pin, bore) in enumerate(pairs):
        rest = [pair for pair in pairs[at + 1:] if pair[0] != pin and pair[1] != bore]
        found = [(pin, bore)] + longest_choice(rest)
        # An equally long list is not taken, since it comes after that which was found before.
        if len(found) > len(best):
            best = found
    return best


def choice_of_sure(lot, ranges):
    return longest_choice(fitting_pairs(lot, ranges, surely_fits))


def choice_of_hoped(lot, ranges):
    return longest_choice(fitting_pairs(lot, ranges, can_fit))


def sure_pairs(lot, state):
    """As many pairs as possible that surely fit, no two of them with a common part."""
    check_state(lot, state)
    return choice_of_sure(lot, state)


def hoped_pairs(lot, state):
    """As many pairs as possible that can fit, no two of them with a common part."""
    check_state(lot, state)
    return choice_of_hoped(lot, state)


def has_sure(lot, ranges, many):
    """Whether so many pairs surely fit with these ranges, no two of them with a common part."""
    return len(choice_of_sure(lot, ranges)) >= many


def is_settled(lot, ranges, many):
    """Whether so many pairs surely fit with these ranges, or not so many can fit."""
    return has_sure(lot, ranges, many) or len(choice_of_hoped(lot, ranges)) < many


def verdict(lot, state, many):
    """True if so many pairs surely fit, False if not so many can fit, None if this is not settled."""
    check_state(lot, state)
    check_many(many)
    if not is_settled(lot, state, many):
        return None
    return has_sure(lot, state, many)
