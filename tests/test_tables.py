import unittest

import samples
from commondays.errors import InvalidDay, InvalidItem, InvalidTable, NotAHistory, SameItem
from commondays.tables import bad_triple, day_of, groups, is_history, is_table
from samples import LONG


class Nearly(int):
    """An integer of another class."""


class Examples(unittest.TestCase):
    def test_section_4(self):
        self.assertEqual(day_of(((), (7,), (3, 3)), 0, 1), 7)
        self.assertEqual(bad_triple(((), (5,), (5, 2))), (0, 1, 2))
        self.assertEqual(groups(((), (7,), (3, 3)), 5), [(0, 1), (2,)])


class IsTable(unittest.TestCase):
    def test_all_small_tables(self):
        for many, last in [(1, 0), (2, 3), (3, 3), (4, 1)]:
            for table in samples.tables(many, last):
                self.assertIs(is_table(table), True)

    def test_large_tables(self):
        for table in samples.large_histories():
            self.assertIs(is_table(table), True)
        self.assertIs(is_table(tuple(tuple(range(k)) for k in range(20))), True)
        self.assertIs(is_table(tuple(tuple(range(k)) for k in range(40))), True)

    def test_tables_that_are_no_histories(self):
        for table in samples.BAD_TABLES:
            with self.subTest(table):
                self.assertIs(is_table(table), True)

    def test_integers_of_another_class(self):
        self.assertIs(is_table(((), (Nearly(7),))), True)

    def test_no_tables(self):
        for at, value in enumerate(samples.NO_TABLES):
            with self.subTest(at):
                self.assertIs(is_table(value), False)

    def test_one_wrong_day_anywhere(self):
        for wrong in samples.NO_DAYS:
            for row in range(1, 4):
                for at in range(row):
                    table = [[2] * k for k in range(4)]
                    table[row][at] = wrong
                    self.assertIs(is_table(tuple(map(tuple, table))), False)

    def test_one_wrong_row_anywhere(self):
        good = ((), (2,), (2, 2), (2, 2, 2))
        for row in range(4):
            for wrong in [list(good[row]), good[row] + (2,), good[row][1:] if row else None, *samples.OTHER_KINDS]:
                table = list(good)
                table[row] = wrong
                self.assertIs(is_table(tuple(table)), False)

    def test_a_list_that_holds_itself(self):
        value = []
        value.append(value)
        self.assertIs(is_table(value), False)
        self.assertIs(is_table((value,)), False)


class IsHistory(unittest.TestCase):
    def test_all_small_tables(self):
        for many, last in [(1, 0), (2, 3), (3, 4), (4, 2)]:
            for table in samples.tables(many, last):
                self.assertIs(is_history(table), samples.is_history_by_words(table))

    def test_large_histories(self):
        for history in samples.large_histories():
            self.assertIs(is_history(history), True)

    def test_one_wrong_day_in_a_large_history(self):
        history = samples.star_history(20, LONG)
        for row, at in [(1, 0), (19, 0), (19, 18), (10, 4)]:
            rows = [list(days) for days in history]
            rows[row][at] = LONG - 1
            self.assertIs(is_history(tuple(map(tuple, rows))), False)
            rows[row][at] = LONG + 1
            self.assertIs(is_history(tuple(map(tuple, rows))), True)

    def test_no_histories(self):
        for at, value in enumerate(samples.NO_HISTORIES):
            with self.subTest(at):
                self.assertIs(is_history(value), False)


class BadTriple(unittest.TestCase):
    def test_all_small_tables(self):
        for many, last in [(1, 0), (2, 2), (3, 3), (4, 2)]:
            for table in samples.tables(many, last):
                wrong = [
                    (i, j, k)
                    for i in range(many) for j in range(i + 1, many) for k in range(j + 1, many)
                    if not samples.is_history_by_words(((), (table[j][i],), (table[k][i], table[k][j])))
                ]
                self.assertEqual(bad_triple(table), min(wrong, default=None))

    def test_history(self):
        for history in samples.large_histories():
            self.assertIsNone(bad_triple(history))

    def test_several_wrong_triples(self):
        # Wrong are (0, 2, 3) and (0, 2, 4).
        self.assertEqual(bad_triple(((), (1,), (5, 1), (4, 1, 3), (4, 1, 3, 4))), (0, 2, 3))
        # Wrong are (0, 3, 4), (1, 2, 3), (1, 3, 4) and (2, 3, 4); the rows of (1, 2, 3) end first.
        self.assertEqual(bad_triple(((), (1,), (1, 5), (1, 4, 3), (2, 1, 1, 4))), (0, 3, 4))

    def test_last_triple(self):
        rows = [list(days) for days in samples.comb_history(20, 5)]
        rows[19][18] = LONG
        self.assertEqual(bad_triple(tuple(map(tuple, rows))), (0, 18, 19))
        star = [[3] * k for k in range(17)] + [[1] * 17, [1] * 17 + [2], [1] * 17 + [2, 3]]
        self.assertIsNone(bad_triple(tuple(map(tuple, star))))
        star[19][18] = 1
        self.assertEqual(bad_triple(tuple(map(tuple, star))), (17, 18, 19))

    def test_the_answer_is_a_tuple_of_items(self):
        found = bad_triple(((), (0,), (LONG, LONG - 1)))
        self.assertEqual(found, (0, 1, 2))
        self.assertIs(type(found), tuple)

    def test_no_tables(self):
        for at, value in enumerate(samples.NO_TABLES):
            with self.subTest(at), self.assertRaises(InvalidTable):
                bad_triple(value)


class DayOf(unittest.TestCase):
    def test_both_orders(self):
        for table in [((), (1,), (2, 3), (4, 5, 6)), *samples.large_histories(), *samples.BAD_TABLES]:
            for i in range(len(table)):
                for j in range(i):
                    self.assertEqual(day_of(table, i, j), table[i][j])
                    self.assertEqual(day_of(table, j, i), table[i][j])

    def test_table_is_checked_first(self):
        for at, value in enumerate(samples.NO_TABLES):
            with self.subTest(at):
                for one, other in [(0, 1), (0, 0), (-1, 0), (0, None), ("", "")]:
                    with self.assertRaises(InvalidTable):
                        day_of(value, one, other)

    def test_items(self):
        table = ((), (1,), (2, 3))
        for at, wrong in enumerate(samples.NO_ITEMS):
            with self.subTest(at):
                for one, other in [(wrong, 0), (wrong, 2), (0, wrong), (2, wrong), (wrong, wrong)]:
                    with self.assertRaises(InvalidItem):
                        day_of(table, one, other)

    def test_same_item(self):
        for table in [((),), ((), (1,)), ((), (1,), (2, 3))]:
            for item in range(len(table)):
                with self.assertRaises(SameItem):
                    day_of(table, item, item)
            with self.assertRaises(InvalidItem):
                day_of(table, len(table), len(table))
            with self.assertRaises(InvalidItem):
                day_of(table, 0, len(table))


class Groups(unittest.TestCase):
    def test_all_small_histories(self):
        for many, last in [(1, 0), (2, 2), (3, 3), (4, 2)]:
            for history in samples.histories(many, last):
                for day in range(last + 3):
                    self.assertEqual(groups(history, day), samples.groups_by_words(history, day))

    def test_days_of_large_histories(self):
        for history in samples.large_histories():
            days = {day for row in history for day in row}
            for day in {0, LONG, *days, *[day + 1 for day in days], *[day - 1 for day in days if day]}:
                self.assertEqual(groups(history, day), samples.groups_by_words(history, day))

    def test_day_0_and_very_large_days(self):
        for history in samples.large_histories():
            self.assertEqual(groups(history, 0), [tuple(range(20))])
            self.assertEqual(groups(history, LONG * LONG), [(item,) for item in range(20)])

    def test_around_a_day(self):
        history = ((), (LONG,), (3, 3), (3, 3, 5))
        self.assertEqual(groups(history, 2), [(0, 1, 2, 3)])
        self.assertEqual(groups(history, 3), [(0, 1, 2, 3)])
        self.assertEqual(groups(history, 4), [(0, 1), (2, 3)])
        self.assertEqual(groups(history, 5), [(0, 1), (2, 3)])
        self.assertEqual(groups(history, 6), [(0, 1), (2,), (3,)])
        self.assertEqual(groups(history, LONG - 1), [(0, 1), (2,), (3,)])
        self.assertEqual(groups(history, LONG), [(0, 1), (2,), (3,)])
        self.assertEqual(groups(history, LONG + 1), [(0,), (1,), (2,), (3,)])

    def test_kinds(self):
        found = groups(((), (7,), (3, 3)), 5)
        self.assertIs(type(found), list)
        self.assertTrue(all(type(group) is tuple for group in found))

    def test_one_item(self):
        for day in [0, 1, LONG]:
            self.assertEqual(groups(((),), day), [(0,)])

    def test_history_is_checked_first(self):
        for at, value in enumerate(samples.NO_HISTORIES):
            with self.subTest(at):
                for day in [0, 5, -1, None, True, "5"]:
                    with self.assertRaises(NotAHistory):
                        groups(value, day)

    def test_no_days(self):
        for at, wrong in enumerate(samples.NO_DAYS):
            with self.subTest(at), self.assertRaises(InvalidDay):
                groups(((), (7,), (3, 3)), wrong)
            with self.subTest(at), self.assertRaises(InvalidDay):
                groups(((),), wrong)


if __name__ == "__main__":
    unittest.main()
