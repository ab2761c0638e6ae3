"""Lots and wrong values that several tests use, and slow answers that follow the words of the document."""

from functools import lru_cache
from itertools import combinations, product

from surefit.lots import Lot

GOOD = {"pins": ((4, 5),), "bores": ((6, 7), (8, 9)), "gap": (3, 3), "gauges": (5, 7, 9), "prices": (1, None)}


class Alike:
    """Equal to everything."""

    __hash__ = object.__hash__

    def __eq__(self, other):
        return True


class Unable:
    """Not to be compared, measured, iterated over, hashed, or asked whether it is true."""

    def unable(self, *_):
        raise RuntimeError("nothing of this should have been asked for")

    __eq__ = __ne__ = __lt__ = __le__ = __gt__ = __ge__ = __hash__ = __bool__ = __len__ = __iter__ = __int__ = unable
    __contains__ = __getitem__ = __index__ = unable


# Whatever the argument is: none of these is a lot, a state, a test, a number or a parameter of a lot.
STRANGE = [None, True, False, -1, 31, 10 ** 30, "", "gauge", b"gauge", [], {}, set(), frozenset(), object(), int, len,
           (None,), ((),), ([],), ({},), ("",), (b"",), (True,), (object(),), ((None, None),), (("4", "5"),),
           Alike(), Unable(), (Alike(),), (Unable(),), (Alike(), Alike()), (Unable(), Unable()),
           ("gauge", Alike(), 5), ("gauge", 0, Unable()), (Alike(), 0, 5), (Unable(), 0, 5),
           ((4, 5), (6, 7), Alike()), ((4, 5), (6, 7), Unable()), ((4, 5), (6, 7), (8, Alike())),
           ((4, 5), (6, Unable()), (8, 9))]

# Whatever the lot and the state are: none of these is a number of pairs.
WRONG_MANY = [0, 4, -1, 10 ** 30, True, False, None, "1", (1,), [1], {}, object(), Alike(), Unable()]


def lot_with(**changes):
    """The lot of the document's example, with other values for some parameters."""
    return Lot(**{**GOOD, **changes})


def sizes_in(span):
    return range(span[0], span[1] + 1)


def fitting(lot, ranges, told):
    """The pairs that fit for all sizes (told is all) or for some (told is any), size by size."""
    parts = range(len(ranges))
    pins, bores = parts[:len(lot.pins)], parts[len(lot.pins):]
    return [(pin, bore) for pin, bore in product(pins, bores)
            if told(lot.gap[0] <= wide - thick <= lot.gap[1]
                    for thick, wide in product(sizes_in(ranges[pin]), sizes_in(ranges[bore])))]


def first_longest(pairs):
    """The first of the longest lists of pairs without a common part, found among all lists."""
    for count in range(len(pairs), 0, -1):
        choices = [list(choice) for choice in combinations(sorted(pairs), count)
                   if len({part for pair in choice for part in pair}) == 2 * count]
        if choices:
            return min(choices)
    return []


def slow_verdict(lot, ranges, many):
    if len(first_longest(fitting(lot, ranges, all))) >= many:
        return True
    if len(first_longest(fitting(lot, ranges, any))) < many:
        return False
    return None


def spans_within(span):
    """All ranges within a range."""
    return [(first, last) for first in sizes_in(span) for last in sizes_in((first, span[1]))]


def all_states(lot):
    return list(product(*[spans_within(span) for span in lot.pins + lot.bores]))


def slow_results(state, test):
    """The results of a test, from the lists of all sizes of its part that it can tell of."""
    part, sizes = test[1], list(sizes_in(state[test[1]]))
    if test[0] == "gauge":
        told = [[size for size in sizes if size < test[2]], [size for size in sizes if size >= test[2]]]
    else:
        told = [[size] for size in sizes]
    return [tuple((group[0], group[-1]) if at == part else span for at, span in enumerate(state))
            for group in told if group]


def slow_tests(lot, state):
    """All tests that can have more than one result."""
    parts = range(len(state))
    tests = [("measure", part) for part in parts if lot.prices[1] is not None]
    tests += [("gauge", part, size) for part, size in product(parts, lot.gauges)]
    return sorted(test for test in tests if len(slow_results(state, test)) > 1)


def slow_price(lot, test):
    return lot.prices[["gauge", "measure"].index(test[0])]


def slow_least(start, limit, is_done, steps, price, after):
    """The least budget that is enough to come to an end from a place, whatever happens; None if no budget up to
    the limit is."""
    @lru_cache(None)
    def is_enough(place, budget):
        return is_done(place) or any(
            price(step) <= budget and all(is_enough(other, budget - price(step)) for other in after(place, step))
            for step in steps(place))

    return next((budget for budget in range(limit + 1) if is_enough(start, budget)), None)


def greatest_cost(lot, state):
    """No tree costs more: each test on a way divides a range, and no range is divided more often than this."""
    return sum(last - first for first, last in state) * max(price or 0 for price in lot.prices)


def slow_plan_cost(lot, state, many):
    return slow_least(state, greatest_cost(lot, state), lambda place: slow_verdict(lot, place, many) is not None,
                      lambda place: slow_tests(lot, place), lambda test: slow_price(lot, test), slow_results)


def slow_levels(levels, start, bound, is_done, steps, price, after):
    """Whether levels are right, by the words of the document."""
    def level(place):
        return max(0, levels.get(place, 0))

    if bound > 0 and not (start in levels and levels[start] >= bound):
        return False
    return all(not is_done(place) and all(price(step) + max(map(level, after(place, step))) >= levels[place]
                                          for step in steps(place))
               for place in levels if levels[place] > 0)


def changed_levels(levels):
    """These levels with one of them left out, or less or greater."""
    for place in levels:
        yield {other: levels[other] for other in levels if other != place}
        for by in (-1, 1, 5):
            yield {**levels, place: levels[place] + by}


def nested_lists(tree):
    """All ways to write a list in the place of one tuple of a tree."""
    if isinstance(tree, tuple):
        yield list(tree)
        for at, item in enumerate(tree):
            for changed in nested_lists(item):
                yield tree[:at] + (changed,) + tree[at + 1:]


def slow_tree_cost(place, tree, is_done, steps, price, after):
    """What a tree costs, by the words of the document, or a word if it is no tree for the place."""
    if is_done(place) or tree is None:
        return 0 if is_done(place) and tree is None else "wrong"
    if tree.__class__ is not tuple or len(tree) != 2 or tree[1].__class__ is not tuple or tree[0] not in steps(place):
        return "wrong"
    places = after(place, tree[0])
    costs = [slow_tree_cost(*pair, is_done, steps, price, after) for pair in zip(places, tree[1])]
    if "wrong" in costs or len(tree[1]) != len(places):
        return "wrong"
    return price(tree[0]) + max(costs)


def changed_trees(tree, steps):
    """This tree with a change in one place: other steps, other branches, fewer or more of them."""
    if tree is None:
        for step in steps:
            yield (step, (None, None))
        return
    yield None
    step, branches = tree
    for other in steps:
        yield (other, branches)
    yield (step, branches[::-1])
    yield (step, branches[:-1])
    yield (step, branches + (None,))
    yield (step, branches, None)
    yield (step,)
    for at, branch in enumerate(branches):
        for changed in changed_trees(branch, steps):
            yield (step, branches[:at] + (changed,) + branches[at + 1:])


def slow_groups(span, part, tests):
    """The sizes of a part, grouped by what these tests tell of them."""
    groups = {}
    for size in sizes_in(span):
        told = [size if test[0] == "measure" else size >= test[2] for test in tests if test[1] == part]
        groups.setdefault(tuple(told), []).append(size)
    return sorted((group[0], group[-1]) for group in groups.values())


def slow_batch_results(state, tests):
    """All states that tests can lead to that are fixed beforehand."""
    return list(product(*[slow_groups(span, part, tests) for part, span in enumerate(state)]))


def slow_open(lot, state, many, tests):
    """The results of these tests that are not settled."""
    return [result for result in slow_batch_results(state, tests) if slow_verdict(lot, result, many) is None]


def slow_batch_cost(lot, state, many):
    """The least sum of prices of all sets of tests that are enough, None if there is none."""
    tests = slow_tests(lot, state)
    chosen = [choice for count in range(len(tests) + 1) for choice in combinations(tests, count)]
    return min((sum(slow_price(lot, test) for test in choice) for choice in chosen
                if not slow_open(lot, state, many, choice)), default=None)


def slow_proof(lot, state, many, tree, price, inside=(), outside=()):
    """Whether a tree for these tests in and out is right, by the words of the document."""
    if tree.__class__ is not tuple or len(tree) != 3:
        return False
    tests = slow_tests(lot, state)
    if tree[0] == "price":
        return tree[1:] == (None, None) and sum(slow_price(lot, test) for test in inside) >= price
    if tree[0] == "open":
        left = [test for test in tests if test not in outside]
        return tree[2] is None and tree[1] in slow_open(lot, state, many, left)
    if tree[0] not in tests or tree[0] in inside or tree[0] in outside:
        return False
    return (slow_proof(lot, state, many, tree[1], price, inside + (tree[0],), outside)
            and slow_proof(lot, state, many, tree[2], price, inside, outside + (tree[0],)))


def changed_proofs(tree, tests, results):
    """This tree with a change in one place."""
    yield None
    yield tree[:2]
    yield tree + (None,)
    yield ("price", None, None)
    for result in results:
        yield ("open", result, None)
    yield ("shut", *tree[1:])
    yield (tree[0], tree[2], tree[1])
    for test in tests:
        yield (test, tree[1], tree[2])
    for at in (1, 2):
        if tree[0] not in ("price", "open"):
            for changed in changed_proofs(tree[at], tests, results):
                yield tree[:at] + (changed,) + tree[at + 1:]


def slow_next_test(lot, state, many, inspector):
    """The test that an inspector makes, by the words of the document."""
    tests = slow_tests(lot, state)
    if not tests or slow_verdict(lot, state, many) is not None:
        return None

    def most(test):
        return max(len(sizes_in(result[test[1]])) for result in slow_results(state, test))

    if inspector == "even":
        return next(test for test in tests if most(test) == min(map(most, tests)))
    if inspector == "cheap":
        least = min(slow_price(lot, test) for test in tests)
        return next(test for test in tests if slow_price(lot, test) == least)
    if inspector == "wide":
        parts = sorted({test[1] for test in tests})
        greatest = max(len(sizes_in(state[part])) for part in parts)
        part = next(part for part in parts if len(sizes_in(state[part])) == greatest)
        return ("measure", part) if lot.prices[1] else next(test for test in tests if test[1] == part)
    return tests[0]


def slow_result_index(state, test, sizes):
    """The index of the result of a test in which the sizes are."""
    return next(index for index, result in enumerate(slow_results(state, test))
                if sizes[test[1]] in sizes_in(result[test[1]]))


def slow_walk(lot, state, many, inspector, sizes):
    """What an inspector pays with these sizes, and the state in which it ends."""
    cost = 0
    while (test := slow_next_test(lot, state, many, inspector)) is not None:
        cost += slow_price(lot, test)
        state = slow_results(state, test)[slow_result_index(state, test, sizes)]
    return cost, state


def all_sizes(state):
    return list(product(*[sizes_in(span) for span in state]))


def slow_worst_cost(lot, state, many, inspector):
    """The greatest sum of prices over all sizes, None if the inspector can end in a state that is not settled."""
    ways = [slow_walk(lot, state, many, inspector, sizes) for sizes in all_sizes(state)]
    if any(slow_verdict(lot, end, many) is None for _, end in ways):
        return None
    return max(cost for cost, _ in ways)


def slow_heights(heights, lot, start, many, inspector, total):
    """Whether heights are right, by the words of the document."""
    if start not in heights or heights[start] > total or any(height < 0 for height in heights.values()):
        return False
    for state in heights:
        if slow_verdict(lot, state, many) is None:
            test = slow_next_test(lot, state, many, inspector)
            if test is None:
                return False
            for result in slow_results(state, test):
                if result not in heights or heights[result] + slow_price(lot, test) > heights[state]:
                    return False
    return True
