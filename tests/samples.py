"""Lots and wrong values that several tests use, and slow answers that follow the words of the document."""

from itertools import combinations, product

from surefit.lots import Lot

GOOD = {"pins": ((4, 5),), "bores": ((6, 7), (8, 9)), "gap": (3, 3), "gauges": (5, 7, 9), "prices": (1, None)}

# Whatever the argument is: none of these is a lot, a state, a test, a number or a parameter of a lot.
STRANGE = [None, True, False, -1, 31, 10 ** 30, "", "gauge", b"gauge", [], {}, set(), frozenset(), object(), int, len,
           (None,), ((),), ([],), ({},), ("",), (b"",), (True,), (object(),), ((None, None),), (("4", "5"),)]


def lot_with(**changes):
    """The lot of the document's example, with other values for some parameters."""
    return Lot(**{**GOOD, **changes})


def sizes_in(span):
    return range(span[0], span[1] + 1)


def fitting(lot, ranges, told):
    """The pairs that fit for all sizes (told is all) or for some (told is any), size by size."""
    parts = range(len(ranges))
    pins, bores = parts[:len(lot.pins)], parts[len(lot.pins):]
    return [(pin, bore) for pin, bore in product(pins, bores)
            if told(lot.gap[0] <= wide - thick <= lot.gap[1]
                    for thick, wide in product(sizes_in(ranges[pin]), sizes_in(ranges[bore])))]


def first_longest(pairs):
    """The first of the longest lists of pairs without a common part, found among all lists."""
    for count in range(len(pairs), 0, -1):
        choices = [list(choice) for choice in combinations(sorted(pairs), count)
                   if len({part for pair in choice for part in pair}) == 2 * count]
        if choices:
            return min(choices)
    return []


def slow_verdict(lot, ranges, many):
    if len(first_longest(fitting(lot, ranges, all))) >= many:
        return True
    if len(first_longest(fitting(lot, ranges, any))) < many:
        return False
    return None


def spans_within(span):
    """All ranges within a range."""
    return [(first, last) for first in sizes_in(span) for last in sizes_in((first, span[1]))]


def all_states(lot):
    return list(product(*[spans_within(span) for span in lot.pins + lot.bores]))
