import copy
import inspect
import time
import unittest

import samples
from commondays import forks as forks_file
from commondays import tables as tables_file
from commondays.errors import DaysError
from commondays.forks import fork_at, forks, history_of
from commondays.tables import bad_triple, day_of, groups, is_history, is_table

INTERFACE = {
    tables_file: {
        "is_table": ["value"],
        "is_history": ["value"],
        "day_of": ["table", "one", "other"],
        "bad_triple": ["table"],
        "groups": ["history", "day"],
    },
    forks_file: {
        "forks": ["history"],
        "history_of": ["items", "given"],
        "fork_at": ["history", "one", "other"],
    },
}

HISTORY = ((), (7,), (3, 3))
FORKS = [(7, ((0,), (1,))), (3, ((0, 1), (2,)))]

# A function, good arguments in order, and the result.
CALLS = [
    (is_table, {"value": HISTORY}, True),
    (is_history, {"value": HISTORY}, True),
    (day_of, {"table": HISTORY, "one": 0, "other": 2}, 3),
    (bad_triple, {"table": ((), (5,), (5, 2))}, (0, 1, 2)),
    (groups, {"history": HISTORY, "day": 5}, [(0, 1), (2,)]),
    (forks, {"history": HISTORY}, [(3, ((0, 1), (2,))), (7, ((0,), (1,)))]),
    (history_of, {"items": 3, "given": FORKS}, HISTORY),
    (fork_at, {"history": HISTORY, "one": 1, "other": 2}, (3, ((0, 1), (2,)))),
]

# Lists in these arguments could be changed before or while an error is raised.
WRONG_CALLS = [
    (day_of, [[[], [7]], 0, 1]),
    (day_of, [((), [7]), [0], 1]),
    (day_of, [HISTORY, [0], [1]]),
    (bad_triple, [[[], [5], [5, 2]]]),
    (groups, [[[], [7]], 5]),
    (groups, [HISTORY, [5]]),
    (forks, [((), [7])]),
    (fork_at, [[[], [7]], 0, 1]),
    (fork_at, [HISTORY, 0, [1]]),
    (history_of, [[3], [(7, ((0,), (1,))), (3, ((0, 1), (2,)))]]),
    (history_of, [4, [(7, ((0,), (1,))), (3, ((0, 1), (2,)))]]),
    (history_of, [3, [(7, ((0,), (1,))), (3, ((2,), (0, 1)))]]),
    (history_of, [3, [(7, ((0,), (1,))), (8, ((0, 1), (2,)))]]),
    (history_of, [3, [(7, ((0,), (1,))), (3, [(0, 1), (2,)])]]),
    (history_of, [3, [(7, ((0,), (1,))), (3, ([1, 0], (2,)))]]),
    (history_of, [3, [(7, ((0,), (1,))), [3, ((0, 1), (2,))]]]),
    (history_of, [3, [(7, ((0,), (1,))), (3, ((0, 1), (2,))), []]]),
]


class Interface(unittest.TestCase):
    def test_names_and_arguments(self):
        for file, functions in INTERFACE.items():
            for name, names in functions.items():
                with self.subTest(name):
                    function = getattr(file, name)
                    self.assertTrue(inspect.isfunction(function))
                    self.assertEqual(function.__module__, file.__name__)
                    self.assertEqual(list(inspect.signature(function).parameters), names)

    def test_calls_by_position_and_by_name(self):
        for function, given, expected in CALLS:
            with self.subTest(function.__name__):
                self.assertEqual(function(*given.values()), expected)
                self.assertEqual(function(**given), expected)
                self.assertEqual(function(**dict(reversed(given.items()))), expected)
                first, *rest = given
                self.assertEqual(function(given[first], **{name: given[name] for name in rest}), expected)


class Arguments(unittest.TestCase):
    def test_unchanged_after_a_call(self):
        for function, given, _ in CALLS:
            with self.subTest(function.__name__):
                before = copy.deepcopy(given)
                function(**given)
                self.assertEqual(given, before)

    def test_unchanged_after_an_error(self):
        for function, given in WRONG_CALLS:
            with self.subTest(function.__name__, given=given):
                before = copy.deepcopy(given)
                with self.assertRaises(DaysError):
                    function(*given)
                self.assertEqual(given, before)

    def test_unchanged_after_false(self):
        for value in [[], [[]], [[], [7]], ((), [7]), ([],), [(), (7,)], {0: []}]:
            before = copy.deepcopy(value)
            self.assertIs(is_table(value), False)
            self.assertIs(is_history(value), False)
            self.assertEqual(value, before)

    def test_later_changes_have_no_effect(self):
        given = list(FORKS)
        made = history_of(3, given)
        given.clear()
        self.assertEqual(made, HISTORY)
        self.assertEqual(history_of(3, list(FORKS)), HISTORY)


class ReturnedLists(unittest.TestCase):
    def test_new_at_each_call(self):
        for function, given in [(groups, (HISTORY, 5)), (groups, (HISTORY, 0)), (groups, (((),), 3)),
                                (forks, (HISTORY,)), (forks, (((),),))]:
            with self.subTest(function.__name__, given=given):
                one = function(*given)
                other = function(*given)
                expected = list(one)
                self.assertIsNot(one, other)
                one.append(None)
                one.reverse()
                self.assertEqual(other, expected)
                self.assertEqual(function(*given), expected)

    def test_returned_values_may_be_passed_back(self):
        for history in samples.large_histories():
            self.assertEqual(history_of(len(history), forks(history)), history)


class RunningTime(unittest.TestCase):
    def test_days_of_forty_digits_and_twenty_items(self):
        begin = time.process_time()
        for history in samples.large_histories():
            self.assertIsNone(bad_triple(history))
            groups(history, samples.LONG // 2)
            fork_at(history, 0, 19)
            history_of(20, forks(history))
        self.assertLess(time.process_time() - begin, 10)


if __name__ == "__main__":
    unittest.main()
