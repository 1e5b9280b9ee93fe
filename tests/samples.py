"""Tables, histories and odd values for the tests, made straight from the definitions of the document."""

from itertools import product


class Hostile:
    """An object that fails at everything but being asked for its class."""

    __hash__ = None

    def _fail(self, *rest):
        raise RuntimeError("this object was used")

    __eq__ = __ne__ = __lt__ = __le__ = __gt__ = __ge__ = _fail
    __len__ = __bool__ = __iter__ = __contains__ = __getitem__ = __call__ = _fail
    __int__ = __index__ = __add__ = __radd__ = __sub__ = __rsub__ = __neg__ = _fail
    __str__ = __repr__ = _fail


# Each is neither an integer nor a tuple nor a list.
OTHER_KINDS = [
    None, True, False, 0.0, 1.0, 2.5, float("nan"), float("inf"), 1j, "", "0", "abc", "((), (7,))", b"", b"ab",
    bytearray(b"a"), {}, {0: ()}, {0, 1}, frozenset(), range(2), object, len, object(), ValueError(), ..., NotImplemented,
    Hostile(), memoryview(b"ab"), iter([]), zip(), (x for x in ()),
]

LONG = 10 ** 40 - 1  # forty digits


def rows_of(length, values):
    return product(values, repeat=length)


def tables(many, last):
    """All tables for so many items without a day after last."""
    return product(*[list(rows_of(length, range(last + 1))) for length in range(many)])


def day(table, i, j):
    return table[i][j] if i > j else table[j][i]


def is_history_by_words(table):
    many = range(len(table))
    return all(
        day(table, i, k) >= min(day(table, i, j), day(table, j, k))
        for i in many for j in many for k in many
        if i != j and j != k and i != k
    )


def histories(many, last):
    return [table for table in tables(many, last) if is_history_by_words(table)]


def groups_by_words(history, when):
    found = []
    for item in range(len(history)):
        group = [k for k in range(len(history)) if k == item or day(history, item, k) >= when]
        if group not in found:
            found.append(group)
    return [tuple(group) for group in sorted(found)]


def forks_by_words(history):
    last = max([when for row in history for when in row], default=0)
    found = []
    for when in range(last + 1):
        later = groups_by_words(history, when + 1)
        for group in groups_by_words(history, when):
            if group not in later:
                found.append((when, tuple(branch for branch in later if set(branch) <= set(group))))
    return found


def comb_history(many, first):
    """Item k parts from all earlier ones on day first + many - k."""
    return tuple((first + many - k,) * k for k in range(many))


def star_history(many, when):
    """All items part on one day."""
    return tuple((when,) * k for k in range(many))


def halves_history(many, step):
    """The items part into halves again and again, step days apart."""
    def parted(i, j):
        depth, low, high = 0, 0, many
        while True:
            middle = (low + high) // 2
            if (i < middle) != (j < middle):
                return depth * step
            low, high = (low, middle) if i < middle else (middle, high)
            depth += 1
    return tuple(tuple(parted(i, j) for j in range(i)) for i in range(many))


def large_histories():
    """Histories with twenty items, some with days of forty digits."""
    return [
        comb_history(20, 0),
        comb_history(20, LONG - 20),
        star_history(20, LONG),
        star_history(20, 0),
        halves_history(20, 1),
        halves_history(20, LONG // 10),
    ]


NO_TABLES = [
    (), [], [()], [(), (7,)], ([],), ((), [7]), ((), (7,), [3, 3]), ((7,),), ((), ()), ((), (7, 7)), ((), (7,), (3,)),
    ((), (7,), (3, 3, 3)), ((), (7,), ()), ((), (7,), (3, 3), (1, 1)), ((7,), ()), ((), (-1,)), ((), (7,), (3, -3)),
    ((), (True,)), ((), (False,)), ((), (7,), (3, True)), ((), ("7",)), ((), (None,)), ((), (7.0,)), ((), ((7,),)),
    ((), ([],)), ((), (7,), None), (None,), (0,), ("",), ((), "7"), ((), b"a"), ((), {7: 7}), ((), range(1)),
    ((), (Hostile(),)), ((), Hostile()), 0, 1, -1, 7, LONG, (7,), ((),) * 2, ((),) * 20, ((), (7,), (3, "3")),
    ((), (7,), (None, 3)), ((), (-LONG,)), *OTHER_KINDS,
]

BAD_TABLES = [
    ((), (5,), (5, 2)), ((), (5,), (2, 5)), ((), (2,), (5, 5)), ((), (1,), (2, 3)), ((), (3,), (1, 2)),
    ((), (0,), (LONG, LONG - 1)), ((), (4,), (4, 4), (4, 4, 3)), ((), (9,), (2, 9)),
]

NO_HISTORIES = NO_TABLES + BAD_TABLES

# For a table with the items 0, 1, 2.
NO_ITEMS = [3, -1, 4, LONG, -LONG, (), (0,), [], [0], *OTHER_KINDS]

NO_DAYS = [-1, -LONG, (), (0,), [], [0], *OTHER_KINDS]

NO_NUMBERS = [0, -1, -LONG, (), (1,), [], [1], *OTHER_KINDS]
