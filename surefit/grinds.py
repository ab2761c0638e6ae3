"""The least cost at which so many pairs surely fit, if parts can be ground as well as tested, or why they never do."""

from surefit.checks import is_integer_within, is_pair, is_span_within
from surefit.errors import BadFee, BadPosition, TooLarge
from surefit.lots import check_lot, check_many, has_sure
from surefit.plans import Search, count_states, is_least, is_without_tree
from surefit.probes import outcomes, possible_tests, test_price, with_item

MOST_GRINDS = 2
GREATEST_FEE = 9
MOST_POSITIONS = 900


def grind_step(lot, part):
    """By how much the sizes of a part change when it is ground."""
    return -1 if part < len(lot.pins) else 1


def is_range_of(lot, part, span, count):
    """Whether a part that was ground so often can have this range."""
    first, last = lot.start()[part]
    shift = count * grind_step(lot, part)
    return is_span_within(span, first + shift, last + shift)


def is_position(lot, position):
    if not is_pair(position):
        return False
    ranges, counts = position
    if not isinstance(ranges, tuple) or not isinstance(counts, tuple):
        return False
    if len(ranges) != len(lot) or len(counts) != len(lot):
        return False
    if not all([is_integer_within(count, 0, MOST_GRINDS) for count in counts]):
        return False
    return all([is_range_of(lot, part, ranges[part], counts[part]) for part in range(len(lot))])


def check_position(lot, position):
    """Raises the error for a lot that is none, then that for a position that is none of the lot."""
    check_lot(lot)
    if not is_position(lot, position):
        raise BadPosition("not a position of the lot")


def check_fee(fee):
    if not is_integer_within(fee, 1, GREATEST_FEE):
        raise BadFee("not a fee from 1 to 9")


def possible_moves(lot, position):
    """All moves that are possible in the position, in order."""
    ranges, counts = position
    return possible_tests(lot, ranges) + [("grind", part) for part, count in enumerate(counts) if count < MOST_GRINDS]


def position_ground(lot, position, part):
    """The position in which a part was ground once more."""
    ranges, counts = position
    first, last = ranges[part]
    by = grind_step(lot, part)
    return (with_item(ranges, part, (first + by, last + by)), with_item(counts, part, counts[part] + 1))


class PositionRules:
    """Going from position to position by tests and grinds, until so many pairs surely fit."""

    def __init__(self, lot, many, fee):
        self.lot = lot
        self.many = many
        self.fee = fee

    def is_place(self, value):
        return is_position(self.lot, value)

    def is_done(self, place):
        return has_sure(self.lot, place[0], self.many)

    def possible_steps(self, place):
        return possible_moves(self.lot, place)

    def step_price(self, step):
        return self.fee if step[0] == "grind" else test_price(self.lot, step)

    def places_after(self, place, step):
        if step[0] == "grind":
            return [position_ground(self.lot, place, step[1])]
        ranges, counts = place
        return [(left, counts) for left in outcomes(ranges, step)]


def check_work(lot, position, many, fee):
    check_position(lot, position)
    check_many(many)
    check_fee(fee)


class Make:
    """The least cost of a work tree for a position, such a tree, and levels that show that none costs less."""

    def __init__(self, bound, tree, levels):
        self.bound = bound
        self.tree = tree
        self.levels = {position: levels[position] for position in levels}

    def __eq__(self, other):
        return (isinstance(other, Make) and self.bound == other.bound and self.tree == other.tree
                and self.levels == other.levels)

    def shows(self, lot, position, many, fee):
        check_work(lot, position, many, fee)
        return is_least(PositionRules(lot, many, fee), position, self.bound, self.tree, self.levels)


class Unmade:
    """Positions that are not made, among which each move has a result again."""

    def __init__(self, spots):
        self.spots = list(spots)

    def __eq__(self, other):
        return isinstance(other, Unmade) and self.spots == other.spots

    def __iter__(self):
        return iter(self.spots)

    def shows(self, lot, position, many, fee):
        check_work(lot, position, many, fee)
        return is_without_tree(PositionRules(lot, many, fee), position, self.spots)


def count_positions(ranges):
    """How many positions there are within these ranges, whatever was ground."""
    count = count_states(ranges)
    for _ in ranges:
        count = count * (MOST_GRINDS + 1)
    return count


def searched_work(lot, position, many, fee):
    """A search for work trees of this position, after all arguments were checked."""
    check_work(lot, position, many, fee)
    if count_positions(position[0]) > MOST_POSITIONS:
        raise TooLarge("too many positions can come of this one")
    return Search(PositionRules(lot, many, fee))


def make(lot, position, many, fee):
    """A Make for the position, or an Unmade if no moves make it whatever the sizes are."""
    search = searched_work(lot, position, many, fee)
    bound = search.least_cost(position)
    if bound is None:
        return Unmade(search.places_without_tree())
    return Make(bound, search.cheapest_tree(position), search.levels_up_to(bound))


def make_cost(lot, position, many, fee):
    """The least cost at which the position is made, None if no moves make it whatever the sizes are."""
    return searched_work(lot, position, many, fee).least_cost(position)


def moves(lot, position):
    """The list of all moves that are possible in the position, tests first."""
    check_position(lot, position)
    return possible_moves(lot, position)
