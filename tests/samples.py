"""Tables, histories, bounds and odd values for the tests, made straight from the definitions of the document."""

import random
from itertools import combinations, product


class Hostile:
    """An object that fails at everything but being asked for its class."""

    __hash__ = None

    def _fail(self, *rest):
        raise RuntimeError("this object was used")

    __eq__ = __ne__ = __lt__ = __le__ = __gt__ = __ge__ = _fail
    __len__ = __bool__ = __iter__ = __contains__ = __getitem__ = __call__ = _fail
    __int__ = __index__ = __add__ = __radd__ = __sub__ = __rsub__ = __neg__ = _fail
    __str__ = __repr__ = _fail


# Each is neither an integer nor a tuple nor a list.
OTHER_KINDS = [
    None, True, False, 0.0, 1.0, 2.5, float("nan"), float("inf"), 1j, "", "0", "abc", "((), (7,))", b"", b"ab",
    bytearray(b"a"), {}, {0: ()}, {0, 1}, frozenset(), range(2), object, len, object(), ValueError(), ..., NotImplemented,
    Hostile(), memoryview(b"ab"), iter([]), zip(), (x for x in ()),
]

LONG = 10 ** 40 - 1  # forty digits


def rows_of(length, values):
    return product(values, repeat=length)


def tables(many, last):
    """All tables for so many items without a day after last."""
    return product(*[list(rows_of(length, range(last + 1))) for length in range(many)])


def day(table, i, j):
    return table[i][j] if i > j else table[j][i]


def is_history_by_words(table):
    many = range(len(table))
    return all(
        day(table, i, k) >= min(day(table, i, j), day(table, j, k))
        for i in many for j in many for k in many
        if i != j and j != k and i != k
    )


def histories(many, last):
    return [table for table in tables(many, last) if is_history_by_words(table)]


def groups_by_words(history, when):
    found = []
    for item in range(len(history)):
        group = [k for k in range(len(history)) if k == item or day(history, item, k) >= when]
        if group not in found:
            found.append(group)
    return [tuple(group) for group in sorted(found)]


def forks_by_words(history):
    last = max([when for row in history for when in row], default=0)
    found = []
    for when in range(last + 1):
        later = groups_by_words(history, when + 1)
        for group in groups_by_words(history, when):
            if group not in later:
                found.append((when, tuple(branch for branch in later if set(branch) <= set(group))))
    return found


def comb_history(many, first):
    """Item k parts from all earlier ones on day first + many - k."""
    return tuple((first + many - k,) * k for k in range(many))


def star_history(many, when):
    """All items part on one day."""
    return tuple((when,) * k for k in range(many))


def halves_history(many, step):
    """The items part into halves again and again, step days apart."""
    def parted(i, j):
        depth, low, high = 0, 0, many
        while True:
            middle = (low + high) // 2
            if (i < middle) != (j < middle):
                return depth * step
            low, high = (low, middle) if i < middle else (middle, high)
            depth += 1
    return tuple(tuple(parted(i, j) for j in range(i)) for i in range(many))


def large_histories():
    """Histories with twenty items, some with days of forty digits."""
    return [
        comb_history(20, 0),
        comb_history(20, LONG - 20),
        star_history(20, LONG),
        star_history(20, 0),
        halves_history(20, 1),
        halves_history(20, LONG // 10),
    ]


def holds(table, bound):
    one, other, low, high = bound
    return low <= day(table, one, other) and (high is None or day(table, one, other) <= high)


def keeping(candidates, told):
    """Those of some histories that keep told bounds."""
    return [table for table in candidates if all(holds(table, bound) for bound in told)]


def least_days(candidates):
    """The least day of each pair in some histories."""
    many = len(candidates[0])
    return tuple(tuple(min(table[i][j] for table in candidates) for j in range(i)) for i in range(many))


def low_day(told, one, other):
    """The greatest told low bound of a pair, 0 if there is none."""
    return max([low for i, j, low, _ in told if {i, j} == {one, other}], default=0)


def chain_day(told, chain):
    return min(low_day(told, one, other) for one, other in zip(chain, chain[1:]))


def greatest_chains(many, told):
    """The greatest day of a chain for each pair, by going over one more item again and again."""
    best = [[low_day(told, i, j) for j in range(many)] for i in range(many)]
    for k, i, j in product(range(many), repeat=3):
        if len({i, j, k}) == 3:
            best[i][j] = max(best[i][j], min(best[i][k], best[k][j]))
    return tuple(tuple(best[i][:i]) for i in range(many))


def earliest_of_links(many, links):
    """The earliest history in which some pairs are one on given days."""
    return greatest_chains(many, tuple((one, other, when, None) for one, other, when in links))


def is_kept_by_some(many, told):
    """Whether the greatest chains leave each told high possible."""
    return broken_index(many, told) is None


def broken_index(many, told):
    """The least index of a bound that is not possible beside the others, or None."""
    best = greatest_chains(many, told)
    for index, (one, other, _, high) in enumerate(told):
        if high is not None and high < day(best, one, other):
            return index
    return None


def ranges(last):
    """All (low, high) without a day after last, also those without a high."""
    return [(low, high) for low in range(last + 1) for high in [*range(low, last + 1), None]]


def one_bound_each(many, last):
    """All told bounds with one bound for each pair and no day after last."""
    pairs = list(combinations(range(many), 2))
    for chosen in product(ranges(last), repeat=len(pairs)):
        yield tuple((*pair, *days) for pair, days in zip(pairs, chosen))


def mixed_bounds(many, last, length, count, seed):
    """Some told bounds with at most this length; pairs may be turned and occur several times."""
    draw = random.Random(seed)
    for _ in range(count):
        yield tuple(
            (*draw.sample(range(many), 2), *draw.choice(ranges(last))) for _ in range(draw.randint(0, length))
        )


def small_bounds():
    """Numbers of items from two to four with their last day and with many told bounds."""
    return [
        (2, 2, [*one_bound_each(2, 2), *mixed_bounds(2, 2, 4, 100, 1)]),
        (3, 2, [*one_bound_each(3, 2), *mixed_bounds(3, 2, 6, 300, 2)]),
        (4, 1, [*one_bound_each(4, 1)][::23]),
        (4, 2, [*mixed_bounds(4, 2, 8, 400, 3)]),
    ]


def drawn_history(draw, many, last):
    """A history with days up to last."""
    drawn = tuple((i, j, draw.randint(0, last), None) for i, j in combinations(range(many), 2) if draw.random() < 0.2)
    return greatest_chains(many, drawn)


def large_possible_bounds(count, seed):
    """Sixty bounds for twenty items, around the days of a history with days of up to forty digits."""
    draw = random.Random(seed)
    for at in range(count):
        last = [LONG, 9, LONG, 40][at % 4]
        history = drawn_history(draw, 20, last)
        told = []
        for _ in range(60):
            one, other = draw.sample(range(20), 2)
            known = day(history, one, other)
            low = draw.choice([0, known, draw.randint(0, known)])
            high = draw.choice([None, known, draw.randint(known, LONG)])
            told.append((one, other, low, high))
        yield history, tuple(told)


NO_TABLES = [
    (), [], [()], [(), (7,)], ([],), ((), [7]), ((), (7,), [3, 3]), ((7,),), ((), ()), ((), (7, 7)), ((), (7,), (3,)),
    ((), (7,), (3, 3, 3)), ((), (7,), ()), ((), (7,), (3, 3), (1, 1)), ((7,), ()), ((), (-1,)), ((), (7,), (3, -3)),
    ((), (True,)), ((), (False,)), ((), (7,), (3, True)), ((), ("7",)), ((), (None,)), ((), (7.0,)), ((), ((7,),)),
    ((), ([],)), ((), (7,), None), (None,), (0,), ("",), ((), "7"), ((), b"a"), ((), {7: 7}), ((), range(1)),
    ((), (Hostile(),)), ((), Hostile()), 0, 1, -1, 7, LONG, (7,), ((),) * 2, ((),) * 20, ((), (7,), (3, "3")),
    ((), (7,), (None, 3)), ((), (-LONG,)), *OTHER_KINDS,
]

BAD_TABLES = [
    ((), (5,), (5, 2)), ((), (5,), (2, 5)), ((), (2,), (5, 5)), ((), (1,), (2, 3)), ((), (3,), (1, 2)),
    ((), (0,), (LONG, LONG - 1)), ((), (4,), (4, 4), (4, 4, 3)), ((), (9,), (2, 9)),
]

NO_HISTORIES = NO_TABLES + BAD_TABLES

# For a table with the items 0, 1, 2.
NO_ITEMS = [3, -1, 4, LONG, -LONG, (), (0,), [], [0], *OTHER_KINDS]

NO_DAYS = [-1, -LONG, (), (0,), [], [0], *OTHER_KINDS]

# For three items.
NO_PAIRS = [
    (), (0,), (0, 1, 2), (0, 0), (1, 1), (2, 2), (0, 3), (3, 0), (-1, 0), (0, -1), (LONG, 0), (0, -LONG), [0, 1], [],
    (True, 0), (0, True), (False, 1), (0.0, 1), (0, 1.0), (None, 0), (0, None), ("0", 1), ((0,), (1,)), ([0], 1),
    (0, [1]), ((0, 1), 2), ((0, 1),), (Hostile(), 0), (0, Hostile()), (Hostile(), Hostile()), {0: 1, 1: 0}, "01", 0, 1,
    LONG, *OTHER_KINDS,
]

# For any number of items.
NO_BOUNDS_OF_ANY_NUMBER = [
    (), (0,), (0, 1), (0, 1, 2), (0, 1, 2, 3, 4), (0, 1, 2, None, None), [0, 1, 2, 3], ((0, 1), 2, 3), ((0, 1, 2, 3),),
    (0, 0, 2, 3), (1, 1, 0, None), (2, 2, 0, 0), (-1, 0, 2, 3), (0, -1, 2, 3), (0, 1, -1, 3),
    (0, 1, -1, None), (0, 1, -3, -1), (0, 1, 0, -1), (0, 1, 3, 2), (0, 1, 1, 0),
    (0, 1, LONG, LONG - 1), (0, 1, None, 3), (0, 1, None, None), 0, 1, 2, LONG, {0: 1, 1: 2, 2: 3, 3: 4}, "0123",
    "0-1:2..3", *OTHER_KINDS,
    *[(wrong, 1, 2, 3) for wrong in [(), (0,), [], [0], *OTHER_KINDS]],
    *[(0, wrong, 2, 3) for wrong in [(), (1,), [], [1], *OTHER_KINDS]],
    *[(0, 1, wrong, 3) for wrong in [(), (2,), [], [2], *OTHER_KINDS]],
    *[(0, 1, 2, wrong) for wrong in [(), (3,), [], [3], *OTHER_KINDS] if wrong is not None],
    *[(0, 1, 0, wrong) for wrong in [True, False, "", 0.0]],
]

# For three items.
NO_BOUNDS = NO_BOUNDS_OF_ANY_NUMBER + [(0, 3, 2, 3), (3, 0, 2, 3), (0, LONG, 2, 3)]


def no_tolds(no_bounds):
    """Values that are no told bounds, with one of the given values that are no bounds."""
    good = ((0, 1, 2, 3), (2, 1, 0, None), (1, 0, 2, 2))
    values = [[], list(good), [()], good[0], {}, {good[0]: 1}, 0, 1, "", "0-1:2..3", LONG, *OTHER_KINDS]
    for wrong in no_bounds:
        values.append((wrong,))
        for at in range(3):
            values.append((*good[:at], wrong, *good[at + 1:]))
            values.append((*good[:at], wrong, *good[at:]))
        values.append((*good, wrong))
    return values


NO_TOLDS_OF_ANY_NUMBER = no_tolds(NO_BOUNDS_OF_ANY_NUMBER)

# For three items.
NO_TOLDS = no_tolds(NO_BOUNDS)

NO_NUMBERS = [0, -1, -LONG, (), (1,), [], [1], *OTHER_KINDS]


def check_errors(test, function, choices):
    """Call a function with each choice of good and wrong arguments; the first wrong one decides the error.

    For each parameter there are a good value and a list of wrong ones with their errors.
    """
    for chosen in product(*[[(good, None), *wrong] for good, wrong in choices]):
        values = [value for value, _ in chosen]
        errors = [error for _, error in chosen if error is not None]
        if not errors:
            function(*values)
            continue
        with test.assertRaises(errors[0]) as caught:
            function(*values)
        test.assertIs(type(caught.exception), errors[0])
