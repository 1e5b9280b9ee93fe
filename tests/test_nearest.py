import random
import unittest

import samples
from commondays.errors import InvalidTable
from commondays.nearest import least_error, nearest_history, worst_pair
from commondays.tables import is_history
from samples import LONG


def pairs_of(table):
    return [(i, j) for i in range(len(table)) for j in range(i)]


def difference(one, other):
    return max([abs(one[i][j] - other[i][j]) for i, j in pairs_of(one)], default=0)


def as_lows(table):
    return tuple((i, j, table[i][j], None) for i, j in pairs_of(table))


def drawn_table(draw, many, last):
    return tuple(tuple(draw.randint(0, last) for _ in range(length)) for length in range(many))


def moved(draw, history, count, far):
    """A history with some days moved by at most far."""
    rows = [list(row) for row in history]
    for i, j in draw.sample(pairs_of(history), count):
        rows[i][j] = max(0, rows[i][j] + draw.randint(-far, far))
    return tuple(map(tuple, rows))


def chain_of_neighbours(many, first):
    """Neighbouring items part late, the later ones on later days, and all others on day 0."""
    return tuple(tuple(first + j if j == i - 1 else 0 for j in range(i)) for i in range(many))


class Checks(unittest.TestCase):
    def check(self, table):
        """Compare with the words of the document; returns the greatest difference."""
        best = samples.greatest_chains(len(table), as_lows(table))
        excess = {(i, j): best[i][j] - table[i][j] for i, j in pairs_of(table)}
        most = max(excess.values(), default=0)
        error = least_error(table)
        self.assertIs(type(error), int)
        self.assertEqual(error, most // 2 + most % 2)
        expected = tuple(tuple(max(0, day - error) for day in row) for row in best)
        found = nearest_history(table)
        self.assertEqual(found, expected)
        self.assertIs(type(found), tuple)
        self.assertTrue(samples.is_history_by_words(found))
        self.assertEqual(difference(found, table), error)
        self.check_worst_pair(table, best, [pair for pair in pairs_of(table) if excess[pair] == most])
        return most

    def check_worst_pair(self, table, best, worst):
        found = worst_pair(table)
        if samples.is_history_by_words(table):
            self.assertIsNone(found)
            return
        self.assertIs(type(found), tuple)
        i, j, chain = found
        self.assertEqual((i, j), worst[0])
        self.assertIs(type(chain), tuple)
        self.assertEqual((chain[0], chain[-1]), (i, j))
        self.assertEqual(len(set(chain)), len(chain))
        self.assertTrue(all(type(item) is int and 0 <= item < len(table) for item in chain))
        self.assertEqual(samples.chain_day(as_lows(table), chain), best[i][j])


class Examples(unittest.TestCase):
    def test_section_9(self):
        self.assertEqual(least_error(((), (9,), (2, 9))), 4)
        self.assertEqual(nearest_history(((), (9,), (2, 9))), ((), (5,), (5, 5)))
        self.assertEqual(worst_pair(((), (9,), (2, 9))), (2, 0, (2, 1, 0)))


class AllHistories(Checks):
    def test_least_error_of_all_histories(self):
        # A history with later days than all of the table is no nearer than one with these days made earlier.
        for many, last in [(1, 0), (2, 3), (3, 4), (4, 2)]:
            candidates = samples.histories(many, last)
            for table in samples.tables(many, last):
                self.assertEqual(least_error(table), min(difference(table, history) for history in candidates))

    def test_small_tables(self):
        for many, last in [(1, 0), (2, 3), (3, 5), (4, 2)]:
            for table in samples.tables(many, last):
                self.check(table)

    def test_histories(self):
        for many, last in [(1, 0), (2, 3), (3, 3), (4, 2)]:
            for history in samples.histories(many, last):
                self.assertEqual(least_error(history), 0)
                self.assertEqual(nearest_history(history), history)
                self.assertIsNone(worst_pair(history))


class Larger(Checks):
    def test_histories(self):
        for history in samples.large_histories():
            self.assertEqual(self.check(history), 0)
            self.assertEqual(nearest_history(history), history)

    def test_neighbours_that_part_later_and_later(self):
        for first in [1, 2, 7, LONG - 20]:
            table = chain_of_neighbours(20, first)
            self.assertEqual(self.check(table), first + 17)
            self.assertEqual(worst_pair(table), (19, 17, (19, 18, 17)))

    def test_one_chain_through_all_items(self):
        draw = random.Random(50)
        for day in [2, 3, LONG]:
            for order in [list(range(20)), list(range(19, -1, -1)), draw.sample(range(20), 20)]:
                # Away from this order each step is a day too early, so no shorter chain is as late.
                rows = [[day - 1] * length for length in range(20)]
                for one, other in zip(order, order[1:]):
                    rows[max(one, other)][min(one, other)] = day
                last, first = max(order[0], order[-1]), min(order[0], order[-1])
                rows[last][first] = 0
                table = tuple(map(tuple, rows))
                self.assertEqual(self.check(table), day)
                chain = tuple(order) if order[0] == last else tuple(order[::-1])
                self.assertEqual(worst_pair(table), (last, first, chain))

    def test_a_gap_at_the_last_pair_alone(self):
        for history in samples.large_histories():
            day = history[19][18]
            if day:
                lower = history[:19] + (history[19][:18] + (0,),)
                expected = samples.greatest_chains(20, as_lows(lower))[19][18]
                self.assertEqual(self.check(lower), expected)
                if expected:
                    self.assertEqual(worst_pair(lower)[:2], (19, 18))

    def test_odd_and_even_differences(self):
        for most, error in [(1, 1), (2, 1), (3, 2), (4, 2), (9, 5), (LONG, LONG // 2 + 1), (LONG - 1, LONG // 2)]:
            table = ((), (most,), (0, most))
            self.assertEqual(self.check(table), most)
            self.assertEqual(least_error(table), error)
            self.assertEqual(nearest_history(table), ((), (most - error,), (most - error, most - error)))
            raised = ((), (most + 5,), (5, most + 5))
            self.assertEqual(least_error(raised), error)

    def test_days_that_would_fall_below_0(self):
        table = ((), (9,), (0, 9), (1, 0, 2))
        self.check(table)
        self.assertEqual(least_error(table), 5)
        self.assertEqual(nearest_history(table), ((), (4,), (4, 4), (0, 0, 0)))

    def test_the_first_one_of_several_worst_pairs(self):
        table = ((), (5,), (1, 5), (5, 1, 1))
        self.check(table)
        self.assertEqual(worst_pair(table)[:2], (2, 0))
        table = ((), (1,), (5, 5), (1, 5, 1), (1, 1, 1, 5))
        self.check(table)
        self.assertEqual(worst_pair(table)[:2], (1, 0))
        self.assertEqual(worst_pair(table)[2], (1, 2, 0))

    def test_drawn_tables(self):
        draw = random.Random(51)
        for at in range(40):
            many, last = draw.randint(2, 20), [3, 30, LONG, LONG // 2][at % 4]
            self.check(drawn_table(draw, many, last))

    def test_histories_with_some_days_moved(self):
        draw = random.Random(52)
        for at in range(40):
            history = samples.drawn_history(draw, 20, [9, 40, LONG][at % 3])
            self.assertTrue(is_history(history))
            self.check(moved(draw, history, draw.choice([1, 2, 5, 30]), [1, 2, 7, LONG // 3][at % 4]))

    def test_a_moved_history_is_not_far(self):
        draw = random.Random(53)
        for far in [1, 2, 5, LONG // 9]:
            history = samples.drawn_history(draw, 20, LONG)
            self.assertLessEqual(least_error(moved(draw, history, 100, far)), far)


class Errors(unittest.TestCase):
    def test_no_tables(self):
        for at, value in enumerate(samples.NO_TABLES):
            for function in [least_error, nearest_history, worst_pair]:
                with self.subTest(function.__name__, at=at), self.assertRaises(InvalidTable):
                    function(value)

    def test_tables_that_are_no_histories_are_taken(self):
        for table in samples.BAD_TABLES:
            self.assertGreater(least_error(table), 0)
            self.assertIs(is_history(nearest_history(table)), True)
            self.assertIsNotNone(worst_pair(table))


if __name__ == "__main__":
    unittest.main()
