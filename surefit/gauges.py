"""What a state costs to settle when the lot has one more gauge, for each size of a gauge that could be of use."""

from surefit.checks import MOST_GAUGES, is_integer
from surefit.errors import FullLot
from surefit.lots import Lot, check_many, check_state
from surefit.plans import Plan, Stuck, check_reach, plan, plan_cost


def further_sizes(lot, state):
    """The sizes of further gauges, ascending."""
    # A gauge tells something of a part unless its size is the first one of the range or beyond the range.
    return sorted({size for first, last in state for size in range(first + 1, last + 1) if size not in lot.gauges})


def lot_with_gauge(lot, size):
    return Lot(lot.pins, lot.bores, lot.gap, tuple(sorted(lot.gauges + (size,))), lot.prices)


def check_room(lot):
    if len(lot.gauges) == MOST_GAUGES:
        raise FullLot("the lot has as many gauges as a lot can have")


def is_row(lot, state, many, row):
    return isinstance(row, (Plan, Stuck)) and row.shows(lot, state, many)


class Gauges:
    """A Plan or a Stuck for each further gauge."""

    def __init__(self, rows):
        self.rows = {size: rows[size] for size in rows}

    def __eq__(self, other):
        return isinstance(other, Gauges) and self.rows == other.rows

    def __iter__(self):
        return iter(self.rows.items())

    def shows(self, lot, state, many):
        check_state(lot, state)
        check_many(many)
        check_room(lot)
        if not isinstance(self.rows, dict) or not all([is_integer(size) for size in self.rows]):
            return False
        if sorted(self.rows) != further_sizes(lot, state):
            return False
        return all([is_row(lot_with_gauge(lot, size), state, many, row) for size, row in self.rows.items()])


def sizes_for(lot, state, many):
    """The sizes of further gauges, after all arguments were checked."""
    check_state(lot, state)
    check_many(many)
    check_room(lot)
    check_reach(state)
    return further_sizes(lot, state)


def more_gauges(lot, state, many):
    """The Gauges for the state."""
    return Gauges({size: plan(lot_with_gauge(lot, size), state, many) for size in sizes_for(lot, state, many)})


def gauge_costs(lot, state, many):
    """The least cost with each further gauge, None where no tests settle the state whatever the sizes are."""
    return {size: plan_cost(lot_with_gauge(lot, size), state, many) for size in sizes_for(lot, state, many)}


def best_gauge(lot, state, many):
    """The size of the further gauge with the least cost, of several the first one, None if there is none."""
    costs = gauge_costs(lot, state, many)
    found = [(cost, size) for size, cost in costs.items() if cost is not None]
    return min(found)[1] if found else None
