import copy
import inspect
import time
import unittest

import samples
from commondays import bounds as bounds_file
from commondays import counting as counting_file
from commondays import forks as forks_file
from commondays import kinds as kinds_file
from commondays import live as live_file
from commondays import nearest as nearest_file
from commondays import objects as objects_file
from commondays import ranges as ranges_file
from commondays import tables as tables_file
from commondays import telling as telling_file
from commondays import texts as texts_file
from commondays import together as together_file
from commondays.bounds import conflict, earliest, is_possible, keeps
from commondays.counting import count_histories, histories
from commondays.errors import DaysError
from commondays.forks import fork_at, forks, history_of
from commondays.kinds import ExactTold, StrictExactTold, StrictTold
from commondays.live import LiveTold
from commondays.nearest import least_error, nearest_history, worst_pair
from commondays.objects import History, Told
from commondays.ranges import day_range, history_on, possibly_one, surely_earlier, surely_not_later, surely_one
from commondays.tables import bad_triple, day_of, groups, is_history, is_table
from commondays.telling import count_fewest, determines, fewest_pairs, missing, some_pairs
from commondays.texts import format_history, format_told, parse_history, parse_told
from commondays.together import greater, lesser, part, put_together

INTERFACE = {
    tables_file: {
        "is_table": ["value"],
        "is_history": ["value"],
        "day_of": ["table", "one", "other"],
        "bad_triple": ["table"],
        "groups": ["history", "day"],
    },
    forks_file: {
        "forks": ["history"],
        "history_of": ["items", "given"],
        "fork_at": ["history", "one", "other"],
    },
    bounds_file: {
        "is_possible": ["items", "told"],
        "conflict": ["items", "told"],
        "earliest": ["items", "told"],
        "keeps": ["history", "told"],
    },
    ranges_file: {
        "day_range": ["items", "told", "one", "other"],
        "history_on": ["items", "told", "one", "other", "day"],
        "surely_one": ["items", "told", "one", "other", "day"],
        "possibly_one": ["items", "told", "one", "other", "day"],
        "surely_earlier": ["items", "told", "pair", "other"],
        "surely_not_later": ["items", "told", "pair", "other"],
    },
    telling_file: {
        "determines": ["history", "pairs"],
        "missing": ["history", "pairs"],
        "fewest_pairs": ["history"],
        "some_pairs": ["history"],
        "count_fewest": ["history"],
    },
    nearest_file: {
        "least_error": ["table"],
        "nearest_history": ["table"],
        "worst_pair": ["table"],
    },
    together_file: {
        "lesser": ["history", "more"],
        "greater": ["history", "more"],
        "part": ["history", "chosen"],
        "put_together": ["items", "parts"],
    },
    counting_file: {
        "count_histories": ["items", "last"],
        "histories": ["items", "last"],
    },
    texts_file: {
        "format_history": ["history"],
        "format_told": ["told"],
        "parse_history": ["text"],
        "parse_told": ["text"],
    },
}

LIVE = {
    "tell": ["self", "one", "other", "low", "high"],
    "tell_all": ["self", "bounds"],
    "undo": ["self"],
    "try_tells": ["self", "bounds"],
    "told_words": ["self"],
    "range_of": ["self", "one", "other"],
    "__len__": ["self"],
}

# The arguments of a class, its methods with theirs, and its properties.
CLASSES = {
    objects_file: {
        "History": (["table"], {
            "__call__": ["self", "one", "other"],
            "__and__": ["self", "other"],
            "__or__": ["self", "other"],
            "__eq__": ["self", "other"],
            "__len__": ["self"],
        }, ["table"]),
        "Told": (["items", "bounds"], {
            "__add__": ["self", "other"],
            "__contains__": ["self", "value"],
            "__len__": ["self"],
            "__eq__": ["self", "other"],
        }, ["bounds"]),
    },
    live_file: {"LiveTold": (["items"], LIVE, ["bounds_now", "possible_now"])},
    kinds_file: {
        "StrictTold": (["items"], {"told_words": ["self"]}, []),
        "ExactTold": (["items"], {"told_words": ["self"]}, []),
        "StrictExactTold": (["items"], {}, []),
    },
}

HISTORY = ((), (7,), (3, 3))
FORKS = [(7, ((0,), (1,))), (3, ((0, 1), (2,)))]
TOLD = ((0, 1, 5, None), (0, 2, 0, 3))
BROKEN = ((0, 1, 5, None), (1, 2, 7, None), (0, 2, 0, 4))
FAULTY = ((), (9,), (2, 9))
PARTS = [((2, 0), ((), (3,))), ((0, 1), ((), (7,)))]
BEYOND = {"items": 3, "told": TOLD, "one": 1, "other": 2}

# A function, good arguments in order, and the result; None where it is another one each time.
CALLS = [
    (is_table, {"value": HISTORY}, True),
    (is_history, {"value": HISTORY}, True),
    (day_of, {"table": HISTORY, "one": 0, "other": 2}, 3),
    (bad_triple, {"table": ((), (5,), (5, 2))}, (0, 1, 2)),
    (groups, {"history": HISTORY, "day": 5}, [(0, 1), (2,)]),
    (forks, {"history": HISTORY}, [(3, ((0, 1), (2,))), (7, ((0,), (1,)))]),
    (history_of, {"items": 3, "given": FORKS}, HISTORY),
    (fork_at, {"history": HISTORY, "one": 1, "other": 2}, (3, ((0, 1), (2,)))),
    (is_possible, {"items": 3, "told": TOLD}, True),
    (is_possible, {"items": 3, "told": BROKEN}, False),
    (conflict, {"items": 3, "told": BROKEN}, (2, (0, 1, 2))),
    (earliest, {"items": 3, "told": TOLD}, ((), (5,), (0, 0))),
    (keeps, {"history": HISTORY, "told": TOLD}, True),
    (day_range, BEYOND, (0, 3)),
    (history_on, {**BEYOND, "day": 2}, ((), (5,), (2, 2))),
    (surely_one, {**BEYOND, "day": 0}, True),
    (surely_one, {**BEYOND, "day": 1}, False),
    (possibly_one, {**BEYOND, "day": 3}, True),
    (possibly_one, {**BEYOND, "day": 4}, False),
    (surely_earlier, {"items": 3, "told": TOLD, "pair": (1, 2), "other": (0, 1)}, True),
    (surely_earlier, {"items": 3, "told": TOLD, "pair": (0, 1), "other": (1, 2)}, False),
    (surely_not_later, {"items": 3, "told": TOLD, "pair": (0, 2), "other": (1, 2)}, True),
    (surely_not_later, {"items": 3, "told": TOLD, "pair": (0, 1), "other": (1, 2)}, False),
    (determines, {"history": HISTORY, "pairs": [(2, 1), (0, 1)]}, True),
    (missing, {"history": HISTORY, "pairs": [(2, 1), (2, 0)]}, [(7, (0,), (1,))]),
    (fewest_pairs, {"history": HISTORY}, 2),
    (some_pairs, {"history": ((), (4,), (4, 4))}, [(0, 1), (0, 2), (1, 2)]),
    (count_fewest, {"history": HISTORY}, 2),
    (least_error, {"table": FAULTY}, 4),
    (nearest_history, {"table": FAULTY}, ((), (5,), (5, 5))),
    (worst_pair, {"table": FAULTY}, (2, 0, (2, 1, 0))),
    (lesser, {"history": HISTORY}, HISTORY),
    (greater, {"history": HISTORY}, HISTORY),
    (part, {"history": HISTORY, "chosen": (2, 0)}, ((), (3,))),
    (put_together, {"items": 3, "parts": PARTS}, HISTORY),
    (count_histories, {"items": 3, "last": 1}, 5),
    (histories, {"items": 2, "last": 2}, [((), (0,)), ((), (1,)), ((), (2,))]),
    (format_history, {"history": HISTORY}, "((0 1)7 2)3"),
    (format_told, {"told": TOLD}, "0-1:5.. 0-2:0..3"),
    (parse_history, {"text": "((0 1)7 2)3"}, HISTORY),
    (parse_told, {"text": "0-1:5.. 0-2:0..3"}, TOLD),
    (History, {"table": HISTORY}, History(HISTORY)),
    (History(HISTORY), {"one": 2, "other": 0}, 3),
    (Told, {"items": 3, "bounds": TOLD}, Told(3, TOLD)),
    (LiveTold(3).tell, {"one": 0, "other": 1}, None),
    (LiveTold(3).tell, {"one": 0, "other": 1, "low": 2, "high": 2}, None),
    (LiveTold(3).range_of, {"one": 0, "other": 1}, (0, None)),
    (LiveTold.is_valid, {"items": 3, "value": BROKEN}, True),
    (LiveTold.read, {"items": 3, "text": "0-1:5.."}, None),
    (StrictTold, {"items": 3}, None),
    (ExactTold, {"items": 3}, None),
    (StrictExactTold, {"items": 3}, None),
]

# Lists in these arguments could be changed before or while an error is raised.
WRONG_CALLS = [
    (day_of, [[[], [7]], 0, 1]),
    (day_of, [((), [7]), [0], 1]),
    (day_of, [HISTORY, [0], [1]]),
    (bad_triple, [[[], [5], [5, 2]]]),
    (groups, [[[], [7]], 5]),
    (groups, [HISTORY, [5]]),
    (forks, [((), [7])]),
    (fork_at, [[[], [7]], 0, 1]),
    (fork_at, [HISTORY, 0, [1]]),
    (history_of, [[3], [(7, ((0,), (1,))), (3, ((0, 1), (2,)))]]),
    (history_of, [4, [(7, ((0,), (1,))), (3, ((0, 1), (2,)))]]),
    (history_of, [3, [(7, ((0,), (1,))), (3, ((2,), (0, 1)))]]),
    (history_of, [3, [(7, ((0,), (1,))), (8, ((0, 1), (2,)))]]),
    (history_of, [3, [(7, ((0,), (1,))), (3, [(0, 1), (2,)])]]),
    (history_of, [3, [(7, ((0,), (1,))), (3, ([1, 0], (2,)))]]),
    (history_of, [3, [(7, ((0,), (1,))), [3, ((0, 1), (2,))]]]),
    (history_of, [3, [(7, ((0,), (1,))), (3, ((0, 1), (2,))), []]]),
    (is_possible, [[3], TOLD]),
    (is_possible, [3, list(TOLD)]),
    (conflict, [3, ([0, 1, 5, None],)]),
    (earliest, [3, [[0, 1, 5, None]]]),
    (earliest, [3, (*BROKEN, [0, 1, 5, None])]),
    (keeps, [[[], [7]], ()]),
    (keeps, [HISTORY, list(TOLD)]),
    (day_range, [3, TOLD, [1], [2]]),
    (day_range, [3, BROKEN, [1], [2]]),
    (history_on, [3, TOLD, 1, 2, [2]]),
    (history_on, [3, list(TOLD), 1, 2, 2]),
    (surely_one, [3, TOLD, 1, 2, [2]]),
    (possibly_one, [3, TOLD, 1, [2], 2]),
    (surely_earlier, [3, TOLD, [1, 2], (0, 1)]),
    (surely_not_later, [3, TOLD, (0, 2), [1, 2]]),
    (determines, [[[], [7]], [(0, 1)]]),
    (determines, [HISTORY, [(0, 1), [0, 2]]]),
    (missing, [HISTORY, [(2, 1), (0, 1), (1, 1)]]),
    (missing, [[[], [7]], [(1, 0)]]),
    (fewest_pairs, [[[], [7]]]),
    (some_pairs, [[[], [7]]]),
    (count_fewest, [[[], [7]]]),
    (least_error, [[[], [7]]]),
    (nearest_history, [((), [7])]),
    (worst_pair, [[[], [7]]]),
    (lesser, [HISTORY, [[], [7]], ((), (1,))]),
    (lesser, [[[], [7]], HISTORY]),
    (greater, [HISTORY, ((), (1,)), [[], [7]]]),
    (greater, [[[], [7]]]),
    (part, [[[], [7]], (0,)]),
    (part, [HISTORY, [2, 0]]),
    (put_together, [[3], PARTS]),
    (put_together, [2, list(PARTS)]),
    (put_together, [3, [*PARTS, ((2, 0), ((), (4,)))]]),
    (put_together, [3, [*PARTS, ([2, 0], [[], [4]])]]),
    (put_together, [3, [*PARTS, [(2, 0), ((), (3,))]]]),
    (count_histories, [[3], [1]]),
    (count_histories, [3, [1]]),
    (histories, [[3], [1]]),
    (histories, [3, [1]]),
    (format_history, [[[], [7]]]),
    (format_told, [list(TOLD)]),
    (format_told, [([0, 1, 5, None],)]),
    (parse_history, [["0"]]),
    (parse_told, [["0-1:5.."]]),
    (History, [[[], [7]]]),
    (History(HISTORY), [[0], [1]]),
    (History(HISTORY).__and__, [[HISTORY]]),
    (History(HISTORY).__or__, [[HISTORY]]),
    (Told, [[3], TOLD]),
    (Told, [3, list(TOLD)]),
    (Told(3, TOLD).__add__, [list(TOLD)]),
    (LiveTold, [[3]]),
    (LiveTold(3).tell, [[0], [1]]),
    (LiveTold(3).tell_all, [TOLD[0], [0, 2, 0, 3]]),
    (LiveTold(3).try_tells, [TOLD[0], [0, 2, 0, 3]]),
    (LiveTold(3).range_of, [[0], [1]]),
    (LiveTold.read, [3, ["0-1:5.."]]),
    (StrictTold(3).tell_all, [*BROKEN]),
    (ExactTold(3).tell_all, [*BROKEN]),
]


def called(function, *given, **named):
    """What a function returns, and the list of the values of a generator."""
    found = function(*given, **named)
    return list(found) if inspect.isgenerator(found) else found


class Interface(unittest.TestCase):
    def test_names_and_arguments(self):
        for file, functions in INTERFACE.items():
            for name, names in functions.items():
                with self.subTest(name):
                    function = getattr(file, name)
                    self.assertTrue(inspect.isfunction(function))
                    self.assertEqual(function.__module__, file.__name__)
                    self.assertEqual(list(inspect.signature(function).parameters), names)

    def test_classes(self):
        for file, classes in CLASSES.items():
            for name, (names, methods, properties) in classes.items():
                with self.subTest(name):
                    kind = getattr(file, name)
                    self.assertTrue(inspect.isclass(kind))
                    self.assertEqual(kind.__module__, file.__name__)
                    self.assertEqual(list(inspect.signature(kind).parameters), names)
                    for word in properties:
                        self.assertIsInstance(vars(kind)[word], property)
                    for word, expected in methods.items():
                        self.assertEqual(list(inspect.signature(vars(kind)[word]).parameters), expected)

    def test_methods_of_the_class(self):
        self.assertIsInstance(vars(LiveTold)["read"], classmethod)
        self.assertEqual(list(inspect.signature(LiveTold.read).parameters), ["items", "text"])
        self.assertIsInstance(vars(LiveTold)["is_valid"], staticmethod)
        self.assertEqual(list(inspect.signature(LiveTold.is_valid).parameters), ["items", "value"])

    def test_calls_by_position_and_by_name(self):
        for function, given, expected in CALLS:
            with self.subTest(function=function, given=given):
                first, *rest = given
                for found in [
                    called(function, *given.values()),
                    called(function, **given),
                    called(function, **dict(reversed(given.items()))),
                    called(function, given[first], **{name: given[name] for name in rest}),
                ]:
                    if expected is not None:
                        self.assertEqual(found, expected)


class Arguments(unittest.TestCase):
    def test_unchanged_after_a_call(self):
        for function, given, _ in CALLS:
            with self.subTest(function=function):
                before = copy.deepcopy(given)
                called(function, **given)
                self.assertEqual(given, before)

    def test_unchanged_after_an_error(self):
        for function, given in WRONG_CALLS:
            with self.subTest(function=function, given=given):
                before = copy.deepcopy(given)
                with self.assertRaises(DaysError):
                    called(function, *given)
                self.assertEqual(given, before)

    def test_unchanged_after_false(self):
        for value in [[], [[]], [[], [7]], ((), [7]), ([],), [(), (7,)], {0: []}]:
            before = copy.deepcopy(value)
            self.assertIs(is_table(value), False)
            self.assertIs(is_history(value), False)
            self.assertEqual(value, before)

    def test_later_changes_have_no_effect(self):
        given = list(FORKS)
        made = history_of(3, given)
        given.clear()
        self.assertEqual(made, HISTORY)
        self.assertEqual(history_of(3, list(FORKS)), HISTORY)
        pairs = [(2, 1), (2, 0)]
        found = missing(HISTORY, pairs)
        pairs.append((0, 1))
        self.assertEqual(found, [(7, (0,), (1,))])
        self.assertEqual(missing(HISTORY, pairs), [])
        self.assertEqual(missing(HISTORY, pairs[:2]), found)
        parts = list(PARTS)
        made = put_together(3, parts)
        parts.clear()
        self.assertEqual(made, HISTORY)
        self.assertEqual(put_together(3, parts), ((), (0,), (0, 0)))


class ReturnedLists(unittest.TestCase):
    def test_new_at_each_call(self):
        for function, given in [(groups, (HISTORY, 5)), (groups, (HISTORY, 0)), (groups, (((),), 3)),
                                (forks, (HISTORY,)), (forks, (((),),)), (missing, (HISTORY, [(2, 1)])),
                                (missing, (HISTORY, [])), (missing, (((),), [])), (missing, (((), (7,)), [(0, 1)])),
                                (some_pairs, (HISTORY,)), (some_pairs, (((),),))]:
            with self.subTest(function.__name__, given=given):
                one = function(*given)
                other = function(*given)
                expected = list(one)
                self.assertIsNot(one, other)
                one.append(None)
                one.reverse()
                self.assertEqual(other, expected)
                self.assertEqual(function(*given), expected)

    def test_returned_values_may_be_passed_back(self):
        for history in samples.large_histories():
            self.assertEqual(history_of(len(history), forks(history)), history)
        star = samples.star_history(40, samples.LONG * samples.LONG)
        self.assertIs(determines(star, some_pairs(star)), True)
        told = ((0, 1, samples.LONG, None),)
        later = history_on(20, told, 0, 1, samples.LONG * samples.LONG)
        self.assertIs(keeps(later, told), True)
        self.assertEqual(day_range(20, ((0, 1, later[1][0], None),), 1, 0), (later[1][0], None))
        self.assertEqual(greater(later, later), later)
        self.assertIsNone(worst_pair(later))


class RunningTime(unittest.TestCase):
    def test_days_of_forty_digits_and_twenty_items(self):
        begin = time.process_time()
        for history in samples.large_histories():
            self.assertIsNone(bad_triple(history))
            groups(history, samples.LONG // 2)
            fork_at(history, 0, 19)
            history_of(20, forks(history))
        self.assertLess(time.process_time() - begin, 10)

    def test_sixty_bounds_with_days_of_forty_digits(self):
        begin = time.process_time()
        for history, told in samples.large_possible_bounds(10, 41):
            one, other, low, _ = told[0]
            self.assertIsNone(conflict(20, told))
            conflict(20, (*told[:-1], (one, other, 0, low // 2)))
            history_on(20, told, one, other, samples.day(history, one, other))
            surely_earlier(20, told, (0, 1), (1, 2))
            surely_not_later(20, told, (0, 1), (2, 3))
            self.assertIs(determines(history, some_pairs(history)), True)
            self.assertEqual(len(missing(history, [])), fewest_pairs(history))
            count_fewest(history)
            faulty = history[:19] + ((*history[19][:18], 0),)
            worst_pair(faulty)
            self.assertEqual(put_together(20, [(tuple(range(20)), nearest_history(faulty))]), nearest_history(faulty))
            self.assertEqual(greater(*[history] * 20), history)
        self.assertLess(time.process_time() - begin, 10)


if __name__ == "__main__":
    unittest.main()
