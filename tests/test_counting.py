import inspect
import itertools
import time
import unittest

import samples
from commondays.counting import count_histories, histories
from commondays.errors import InvalidDay, InvalidNumber, TooLarge
from commondays.tables import is_history
from samples import LONG, Hostile

ALL_SMALL = [(many, last) for many in range(1, 5) for last in range(4)]


def first_of(items, last):
    """The first history; also raises the errors that are raised when it is asked for."""
    return next(histories(items, last))


def first_ones(many, last, count):
    return list(itertools.islice(histories(many, last), count))


def blocks(many):
    """In how many ways so many items fall into each number of groups."""
    row = [1]
    for _ in range(many):
        row = [(row[k - 1] if k else 0) + k * (row[k] if k < len(row) else 0) for k in range(len(row) + 1)]
    return row


def count_by_last_days(many, last):
    """Items that are one on the last day are as good as one item."""
    counts = [1] * (many + 1)
    for _ in range(last):
        counts = [
            sum(ways * counts[count] for count, ways in enumerate(blocks(number)) if count) if number else 1
            for number in range(many + 1)
        ]
    return counts[many]


class Examples(unittest.TestCase):
    def test_section_11(self):
        self.assertEqual(count_histories(3, 1), 5)
        self.assertEqual(list(histories(2, 2)), [((), (0,)), ((), (1,)), ((), (2,))])


class AllTables(unittest.TestCase):
    def test_exactly_the_tables_of_which_each_triple_fits(self):
        for many, last in ALL_SMALL:
            expected = sorted(samples.histories(many, last))
            self.assertEqual(list(histories(many, last)), expected)
            self.assertEqual(count_histories(many, last), len(expected))

    def test_written_out(self):
        self.assertEqual(list(histories(1, 0)), [((),)])
        self.assertEqual(list(histories(1, LONG)), [((),)])
        self.assertEqual(list(histories(3, 1)), [
            ((), (0,), (0, 0)), ((), (0,), (0, 1)), ((), (0,), (1, 0)), ((), (1,), (0, 0)), ((), (1,), (1, 1)),
        ])


class CountHistories(unittest.TestCase):
    def test_last_day_0(self):
        for many in [1, 2, 3, 20, 40]:
            self.assertEqual(count_histories(many, 0), 1)

    def test_one_pair(self):
        for last in [0, 1, 2, 59, 60]:
            self.assertEqual(count_histories(2, last), last + 1)
            self.assertEqual(count_histories(1, last), 1)

    def test_three_items(self):
        # All on one day, or one of three pairs on a later day than the others.
        for last in range(61):
            self.assertEqual(count_histories(3, last), (last + 1) + 3 * last * (last + 1) // 2)

    def test_two_days_are_the_ways_to_fall_into_groups(self):
        for many in [1, 2, 5, 20, 40]:
            self.assertEqual(count_histories(many, 1), sum(blocks(many)))
        self.assertEqual(count_histories(10, 1), 115975)

    def test_counted_in_another_way(self):
        for many, last in [(5, 3), (7, 2), (12, 9), (20, 20), (39, 60), (40, 2), (40, 59), (40, 60)]:
            self.assertEqual(count_histories(many, last), count_by_last_days(many, last))

    def test_in_good_time(self):
        begin = time.process_time()
        for _ in range(10):
            self.assertIs(type(count_histories(40, 60)), int)
        self.assertLess(time.process_time() - begin, 5)

    def test_walks_are_as_long(self):
        for many, last in [(5, 2), (5, 3), (6, 1), (6, 2), (7, 1), (8, 1)]:
            self.assertEqual(sum(1 for _ in histories(many, last)), count_histories(many, last))


class Histories(unittest.TestCase):
    def test_a_generator(self):
        self.assertTrue(inspect.isgeneratorfunction(histories))
        walk = histories(2, 1)
        self.assertIs(iter(walk), walk)
        self.assertEqual([next(walk), next(walk)], [((), (0,)), ((), (1,))])
        self.assertEqual([next(walk, None), next(walk, None)], [None, None])

    def check_begin(self, found, many, last):
        """Compare the first histories of a walk with the definition."""
        self.assertEqual(found[0], samples.star_history(many, 0))
        for history in found:
            self.assertIs(is_history(history), True)
            self.assertEqual(len(history), many)
            self.assertTrue(all(day <= last for row in history for day in row))
            self.assertIs(type(history), tuple)
            self.assertTrue(all(type(row) is tuple for row in history))
        for history, later in zip(found, found[1:]):
            self.assertLess(history, later)

    def test_many_days(self):
        # Until a row is through with all its days no other row changes.
        for last in [LONG, 10 ** 40]:
            for many in range(2, 9):
                found = first_ones(many, last, 300)
                self.check_begin(found, many, last)
                zeros = samples.star_history(many - 1, 0)
                self.assertEqual(found, [zeros + ((0,) * (many - 2) + (day,),) for day in range(300)])

    def test_the_last_day_itself(self):
        for many in range(2, 9):
            for last in [1, 2]:
                if count_histories(many, last) < 5000:
                    *_, latest = histories(many, last)
                    self.assertEqual(latest, samples.star_history(many, last))

    def test_one_pair_with_several_hundred_days(self):
        self.assertEqual(list(histories(2, 700)), [((), (day,)) for day in range(701)])

    def test_walks_to_the_end(self):
        for many, last in [(3, 12), (4, 4), (5, 2), (6, 1), (7, 1)]:
            found = list(histories(many, last))
            self.check_begin(found, many, last)
            self.assertEqual(len(found), count_histories(many, last))

    def test_many_histories_of_seven_or_eight_items(self):
        for many in [7, 8]:
            for last in [1, 2, 3, 9]:
                found = first_ones(many, last, 950)
                self.assertEqual(len(found), min(950, count_histories(many, last)))
                self.check_begin(found, many, last)
        # As many as there are, each one later than the one before: none is left out.
        found = list(histories(8, 1))
        self.check_begin(found, 8, 1)
        self.assertEqual(len(found), sum(blocks(8)))

    def test_no_history_is_left_out(self):
        walk = histories(5, 2)
        for begin, group in itertools.groupby(walk, key=lambda history: history[:4]):
            ends = [history[4] for history in group]
            self.assertEqual(ends, [
                row for row in itertools.product(range(3), repeat=4) if samples.is_history_by_words(begin + (row,))
            ])

    def test_a_walk_within_another_one(self):
        alone = list(histories(3, 2))
        found, inner = [], []
        for history in histories(3, 2):
            found.append(history)
            inner.append(list(histories(3, 2)))
        self.assertEqual(found, alone)
        self.assertTrue(all(one == alone for one in inner))
        both = list(zip(histories(3, 2), histories(3, 2)))
        self.assertEqual(both, [(history, history) for history in alone])
        walk, other = histories(4, 1), histories(2, 5)
        self.assertEqual([next(walk), next(other), next(walk), next(other)], [
            samples.star_history(4, 0), ((), (0,)), samples.star_history(3, 0) + ((0, 0, 1),), ((), (1,)),
        ])

    def test_a_walk_that_is_left_does_not_disturb_the_next_one(self):
        first_ones(4, 2, 7)
        self.assertEqual(list(histories(4, 2)), sorted(samples.histories(4, 2)))

    def test_in_good_time_for_each(self):
        begin = time.process_time()
        first_ones(8, 10 ** 40, 3000)
        first_ones(8, 2, 3000)
        self.assertLess(time.process_time() - begin, 10)


class Errors(unittest.TestCase):
    def test_number_is_checked_first(self):
        for at, wrong in enumerate(samples.NO_NUMBERS):
            with self.subTest(at):
                for last in [0, 60, 61, -1, None, True, Hostile(), LONG]:
                    for function in [count_histories, first_of]:
                        with self.assertRaises(InvalidNumber):
                            function(wrong, last)

    def check_too_large(self, items, last, limit):
        with self.assertRaises(TooLarge) as caught:
            count_histories(items, last)
        self.assertEqual(caught.exception.limit, limit)
        self.assertIs(type(caught.exception), TooLarge)

    def test_too_many_items(self):
        for items in [41, 42, 100, LONG]:
            for last in [0, 60, 61, LONG, -1, None, True, Hostile()]:
                self.check_too_large(items, last, 40)

    def test_no_day(self):
        for at, wrong in enumerate(samples.NO_DAYS):
            with self.subTest(at):
                for items in [1, 3, 8, 40]:
                    with self.assertRaises(InvalidDay):
                        count_histories(items, wrong)
                    with self.assertRaises(InvalidDay):
                        first_of(items, wrong)

    def test_too_late_a_day(self):
        for items in [1, 2, 3, 40]:
            for last in [61, 62, 100, LONG]:
                self.check_too_large(items, last, 60)

    def test_at_the_limits(self):
        self.assertGreater(count_histories(40, 60), 0)
        self.assertEqual(count_histories(1, 60), 1)
        self.assertEqual(count_histories(40, 0), 1)

    def test_no_limit_for_the_walk(self):
        self.assertEqual(first_of(41, 61), samples.star_history(41, 0))
        self.assertEqual(first_of(8, 10 ** 40), samples.star_history(8, 0))
        with self.assertRaises(InvalidDay):
            first_of(LONG, -1)

    def test_errors_come_by_the_first_value(self):
        for items, last, error in [(0, 1, InvalidNumber), (True, -1, InvalidNumber), (2, -1, InvalidDay),
                                   (2, True, InvalidDay)]:
            with self.assertRaises(error):
                next(histories(items, last))
            with self.assertRaises(error):
                list(histories(items=items, last=last))

    def test_several_wrong_arguments(self):
        numbers = [(wrong, InvalidNumber) for wrong in (0, -1, True, None, 2.0)]
        days = [(wrong, InvalidDay) for wrong in (-1, True, None, "0")]
        samples.check_errors(self, first_of, [(3, numbers), (2, days)])
        samples.check_errors(self, count_histories, [
            (40, numbers + [(41, TooLarge)]), (60, days + [(61, TooLarge)]),
        ])


if __name__ == "__main__":
    unittest.main()
