import random
import unittest
from itertools import product

import samples
from commondays.errors import DaysError, InvalidItem, InvalidNumber, InvalidTold, NotAHistory, NotAnObject, OtherNumber
from commondays.errors import SameItem
from commondays.objects import History, Told
from commondays.together import greater, lesser
from samples import LONG, Hostile

TABLE = ((), (7,), (3, 3))
BOUNDS = ((0, 1, 5, None), (0, 2, 0, 3))


class Equal:
    """An object that says that it is equal to everything."""

    def __eq__(self, other):
        return True

    __hash__ = None


def other_values():
    """Values that are neither History nor Told objects."""
    return [TABLE, BOUNDS, (), [], 0, 1, 3, LONG, "((0 1)7 2)3", History, Told, Equal(), *samples.OTHER_KINDS]


class Examples(unittest.TestCase):
    def test_section_13(self):
        one = History(((), (7,), (3, 3)))
        self.assertEqual(one(2, 0), 3)
        both = one & History(((), (5,), (4, 4)))
        self.assertEqual(both.table, ((), (5,), (3, 3)))
        self.assertIs(one in Told(3, ((0, 1, 5, None), (0, 2, 0, 3))), True)


class Histories(unittest.TestCase):
    def test_called(self):
        for table in samples.histories(3, 2) + samples.histories(4, 1) + samples.large_histories():
            made = History(table)
            for one, other in product(range(len(table)), repeat=2):
                if one != other:
                    self.assertEqual(made(one, other), samples.day(table, one, other))
        made = History(TABLE)
        self.assertEqual(made(one=2, other=0), 3)
        self.assertEqual(made(other=1, one=0), 7)
        self.assertEqual(made(0, other=1), 7)
        self.assertEqual(History(table=TABLE).table, TABLE)

    def test_operators(self):
        for one, other in product(samples.histories(3, 2), repeat=2):
            first, second = History(one), History(other)
            for made, expected in [(first & second, lesser(one, other)), (first | second, greater(one, other))]:
                self.assertIs(type(made), History)
                self.assertEqual(made.table, expected)
            self.assertEqual((first.table, second.table), (one, other))
            self.assertIs(first == second, one == other)
            self.assertIs(first != second, one != other)

    def test_operators_with_large_histories(self):
        some = samples.large_histories()
        for one, other in zip(some, some[1:]):
            self.assertEqual((History(one) & History(other)).table, lesser(one, other))
            self.assertEqual((History(one) | History(other)).table, greater(one, other))

    def test_chained_operators(self):
        draw = random.Random(81)
        tables = [samples.drawn_history(draw, 6, 9) for _ in range(4)]
        first, second, third, fourth = [History(table) for table in tables]
        self.assertEqual((first & second & third & fourth).table, lesser(*tables))
        self.assertEqual((first | second | third | fourth).table, greater(*tables))
        self.assertEqual(first & (first | second), first)
        self.assertEqual(first | (first & second), first)
        kept = first
        first &= second
        self.assertEqual(kept.table, tables[0])
        self.assertEqual(first.table, lesser(tables[0], tables[1]))

    def test_equal(self):
        made = History(TABLE)
        self.assertIs(made == made, True)
        self.assertIs(made == History(TABLE), True)
        self.assertIs(made == History(((), (7,), (3, 3))), True)
        self.assertIs(made == History(((), (7,), (2, 2))), False)
        self.assertIs(made == History(((), (7,))), False)
        self.assertIs(made == Told(3, ()), False)
        for at, value in enumerate(other_values()):
            with self.subTest(at):
                self.assertIs(made == value, False)
                self.assertIs(made != value, True)

    def test_len_and_table(self):
        for many in [1, 2, 3, 20]:
            table = samples.star_history(many, 4)
            self.assertEqual(len(History(table)), many)
            self.assertEqual(History(table).table, table)
            self.assertIs(type(History(table).table), tuple)

    def test_never_changes(self):
        made = History(TABLE)
        with self.assertRaises(AttributeError):
            made.table = ((),)
        self.assertEqual(made.table, TABLE)
        for call in [lambda: made(0, 0), lambda: made & 5, lambda: made | History(((),)), lambda: made(0, 3)]:
            with self.assertRaises(DaysError):
                call()
            self.assertEqual((made.table, len(made)), (TABLE, 3))

    def test_no_history(self):
        for at, wrong in enumerate(samples.NO_HISTORIES):
            with self.subTest(at), self.assertRaises(NotAHistory):
                History(wrong)
        with self.assertRaises(NotAHistory):
            History(History(TABLE))

    def test_items(self):
        made = History(TABLE)
        for at, wrong in enumerate(samples.NO_ITEMS):
            with self.subTest(at):
                for one, other in [(wrong, 0), (0, wrong), (wrong, wrong), (2, wrong)]:
                    with self.assertRaises(InvalidItem):
                        made(one, other)
        for item in range(3):
            with self.assertRaises(SameItem):
                made(item, item)
        with self.assertRaises(InvalidItem):
            History(((),))(0, 1)

    def test_the_other_operand(self):
        for at, wrong in enumerate([*other_values(), Told(3, ())]):
            for made in [History(TABLE), History(((),))]:
                with self.subTest(at):
                    with self.assertRaises(NotAnObject):
                        made & wrong
                    with self.assertRaises(NotAnObject):
                        made | wrong

    def test_another_number(self):
        made = History(TABLE)
        for table in [((),), ((), (7,)), samples.star_history(4, 3), samples.star_history(20, 3)]:
            for one, other in [(made, History(table)), (History(table), made)]:
                with self.assertRaises(OtherNumber):
                    one & other
                with self.assertRaises(OtherNumber):
                    one | other


class ToldObjects(unittest.TestCase):
    def test_sum(self):
        other = ((2, 1, 0, None), (0, 1, 5, None))
        one, two = Told(3, BOUNDS), Told(3, other)
        both = one + two
        self.assertIs(type(both), Told)
        self.assertEqual(both.bounds, BOUNDS + other)
        self.assertEqual((two + one).bounds, other + BOUNDS)
        self.assertEqual((one.bounds, two.bounds), (BOUNDS, other))
        self.assertEqual((len(one), len(two), len(both)), (2, 2, 4))
        self.assertEqual((one + Told(3, ())).bounds, BOUNDS)
        self.assertEqual((Told(3, ()) + one).bounds, BOUNDS)
        self.assertEqual((one + one + one).bounds, BOUNDS * 3)
        # Sums know their number of items, too.
        with self.assertRaises(OtherNumber):
            both + Told(4, ())
        kept = one
        one += two
        self.assertEqual((kept.bounds, one.bounds), (BOUNDS, BOUNDS + other))

    def test_contains(self):
        for many, last, tolds in samples.small_bounds():
            candidates = samples.histories(many, last)
            for told in tolds[::11]:
                made = Told(many, told)
                kept = samples.keeping(candidates, told)
                self.assertEqual([table for table in candidates if History(table) in made], kept)

    def test_contains_large_histories(self):
        for history, told in samples.large_possible_bounds(4, 82):
            made = Told(20, told)
            self.assertIs(History(history) in made, True)
            one, other, _, _ = told[-1]
            day = samples.day(history, one, other)
            self.assertIs(History(history) in Told(20, (*told, (one, other, day + 1, None))), False)

    def test_contains_any_value(self):
        made = Told(3, BOUNDS)
        for at, value in enumerate([*other_values(), Told(3, BOUNDS), made, BOUNDS[0], BOUNDS[1]]):
            with self.subTest(at):
                self.assertIs(value in made, False)
                self.assertIs(value in Told(3, ()), False)
                self.assertIs(value not in made, True)

    def test_contains_only_histories_with_as_many_items(self):
        self.assertIs(History(TABLE) in Told(3, ()), True)
        for table in [((),), ((), (7,)), samples.star_history(4, 3)]:
            self.assertIs(History(table) in Told(3, ()), False)
            self.assertIs(History(table) in Told(3, BOUNDS), False)
            self.assertIs(History(table) in Told(len(table), ()), True)
        self.assertIs(History(((), (7,))) in Told(2, ((0, 1, 8, None),)), False)

    def test_bounds_that_are_not_possible(self):
        made = Told(2, ((0, 1, 5, None), (0, 1, 0, 4)))
        self.assertEqual(len(made), 2)
        self.assertFalse(any(History(((), (day,))) in made for day in range(10)))

    def test_equal(self):
        made = Told(3, BOUNDS)
        self.assertIs(made == made, True)
        self.assertIs(made == Told(3, BOUNDS), True)
        self.assertIs(made == Told(3, BOUNDS[::-1]), False)
        self.assertIs(made == Told(4, BOUNDS), False)
        self.assertIs(made == Told(3, BOUNDS[:1]), False)
        self.assertIs(made == Told(3, BOUNDS + BOUNDS), False)
        self.assertIs(made == Told(3, ((1, 0, 5, None), (0, 2, 0, 3))), False)
        self.assertIs(Told(3, ()) == Told(4, ()), False)
        self.assertIs(Told(3, ()) == Told(3, ()), True)
        self.assertIs(made != Told(3, BOUNDS), False)
        self.assertIs(Told(3, BOUNDS[:1]) + Told(3, BOUNDS[1:]) == made, True)
        for at, value in enumerate([*other_values(), History(TABLE)]):
            with self.subTest(at):
                self.assertIs(made == value, False)
                self.assertIs(made != value, True)

    def test_len_and_bounds(self):
        for count in [0, 1, 2, 60, 300]:
            bounds = ((0, 1, LONG, None),) * count
            made = Told(20, bounds)
            self.assertEqual(len(made), count)
            self.assertEqual(made.bounds, bounds)
            self.assertIs(type(made.bounds), tuple)
        self.assertEqual(Told(items=3, bounds=BOUNDS).bounds, BOUNDS)
        self.assertEqual(Told(bounds=BOUNDS, items=3).bounds, BOUNDS)

    def test_never_changes(self):
        made = Told(3, BOUNDS)
        with self.assertRaises(AttributeError):
            made.bounds = ()
        for call in [lambda: made + 5, lambda: made + Told(4, ()), lambda: made + BOUNDS]:
            with self.assertRaises(DaysError):
                call()
            self.assertEqual((made.bounds, len(made)), (BOUNDS, 2))

    def test_no_number(self):
        for at, wrong in enumerate(samples.NO_NUMBERS):
            with self.subTest(at):
                for bounds in [(), BOUNDS, None, [], Hostile()]:
                    with self.assertRaises(InvalidNumber):
                        Told(wrong, bounds)

    def test_no_bounds(self):
        for at, wrong in enumerate(samples.NO_TOLDS):
            with self.subTest(at), self.assertRaises(InvalidTold):
                Told(3, wrong)
        with self.assertRaises(InvalidTold):
            Told(3, Told(3, BOUNDS))
        for many in range(1, 5):
            with self.assertRaises(InvalidTold):
                Told(many, ((0, many, 0, None),))

    def test_the_other_operand(self):
        for at, wrong in enumerate([*other_values(), History(TABLE)]):
            for made in [Told(3, BOUNDS), Told(1, ())]:
                with self.subTest(at), self.assertRaises(NotAnObject):
                    made + wrong

    def test_another_number(self):
        for one, other in [(3, 4), (4, 3), (3, 1), (20, 3)]:
            with self.assertRaises(OtherNumber):
                Told(one, ()) + Told(other, ())
            with self.assertRaises(OtherNumber):
                Told(one, ((0, one - 1, 0, None),) if one > 1 else ()) + Told(other, ())

    def test_several_wrong_arguments(self):
        numbers = [(wrong, InvalidNumber) for wrong in (0, -1, True, None, 2.0)]
        tolds = [(wrong, InvalidTold) for wrong in ([], ((0, 3, 0, None),), ((0, 1, 5, 4),), None)]
        samples.check_errors(self, Told, [(3, numbers), (BOUNDS, tolds)])
        items = [(wrong, InvalidItem) for wrong in (3, -1, True, None, "0")]
        samples.check_errors(self, History(TABLE), [(0, items), (1, items)])
        samples.check_errors(self, History(TABLE), [(0, items), (1, [(0, SameItem)])])


if __name__ == "__main__":
    unittest.main()
