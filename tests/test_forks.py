import itertools
import unittest

import samples
from commondays.errors import InvalidForks, InvalidItem, InvalidNumber, NotAHistory, SameItem
from commondays.forks import fork_at, forks, history_of
from samples import LONG, Hostile

# Two forks on day 3, one of them with three branches, and two later ones.
WIDE = ((), (3,), (1, 1), (3, 3, 1), (1, 1, 3, 1), (3, 8, 1, 3, 1), (1, 1, 9, 1, 3, 1))
WIDE_FORKS = [
    (1, ((0, 1, 3, 5), (2, 4, 6))),
    (3, ((0,), (1, 5), (3,))),
    (3, ((2, 6), (4,))),
    (8, ((1,), (5,))),
    (9, ((2,), (6,))),
]


class Examples(unittest.TestCase):
    def test_section_5(self):
        self.assertEqual(forks(((), (7,), (3, 3))), [(3, ((0, 1), (2,))), (7, ((0,), (1,)))])
        self.assertEqual(history_of(3, [(7, ((0,), (1,))), (3, ((0, 1), (2,)))]), ((), (7,), (3, 3)))


class Forks(unittest.TestCase):
    def test_all_small_histories(self):
        for many, last in [(1, 0), (2, 3), (3, 3), (4, 2)]:
            for history in samples.histories(many, last):
                self.assertEqual(forks(history), samples.forks_by_words(history))

    def test_many_branches_and_several_forks_on_one_day(self):
        self.assertEqual(forks(WIDE), WIDE_FORKS)
        self.assertEqual(forks(samples.star_history(20, LONG)), [(LONG, tuple((k,) for k in range(20)))])
        self.assertEqual(forks(((), (6,), (0, 0), (0, 0, 6))), [
            (0, ((0, 1), (2, 3))), (6, ((0,), (1,))), (6, ((2,), (3,))),
        ])

    def test_one_item(self):
        self.assertEqual(forks(((),)), [])

    def test_two_items(self):
        for day in [0, 1, LONG]:
            self.assertEqual(forks(((), (day,))), [(day, ((0,), (1,)))])

    def test_large_histories(self):
        comb = forks(samples.comb_history(20, LONG - 20))
        self.assertEqual(comb, [(LONG - k, (tuple(range(k)), (k,))) for k in range(19, 0, -1)])
        for history in samples.large_histories():
            found = forks(history)
            self.assertEqual(found, sorted(found, key=lambda fork: (fork[0], fork[1][0][0])))
            self.assertEqual(history_of(20, found), history)

    def test_kinds(self):
        found = forks(WIDE)
        self.assertIs(type(found), list)
        for fork in found:
            self.assertEqual([type(fork), type(fork[0]), type(fork[1])], [tuple, int, tuple])
            self.assertTrue(all(type(branch) is tuple for branch in fork[1]))

    def test_no_histories(self):
        for at, value in enumerate(samples.NO_HISTORIES):
            with self.subTest(at), self.assertRaises(NotAHistory):
                forks(value)


class ForkAt(unittest.TestCase):
    def check_each_pair(self, history, all_forks):
        for one, other in itertools.permutations(range(len(history)), 2):
            found = fork_at(history, one, other)
            self.assertIn(found, all_forks)
            self.assertEqual(found[0], samples.day(history, one, other))
            parted = [branch for branch in found[1] if one in branch or other in branch]
            self.assertEqual(len(parted), 2)
            self.assertIs(type(found), tuple)

    def test_all_small_histories(self):
        for many, last in [(1, 0), (2, 3), (3, 3), (4, 2)]:
            for history in samples.histories(many, last):
                self.check_each_pair(history, samples.forks_by_words(history))

    def test_larger_histories(self):
        self.check_each_pair(WIDE, WIDE_FORKS)
        for history in samples.large_histories():
            self.check_each_pair(history, forks(history))

    def test_one_of_several_forks_on_one_day(self):
        self.assertEqual(fork_at(WIDE, 4, 2), (3, ((2, 6), (4,))))
        self.assertEqual(fork_at(WIDE, 5, 3), (3, ((0,), (1, 5), (3,))))
        self.assertEqual(fork_at(WIDE, 6, 5), (1, ((0, 1, 3, 5), (2, 4, 6))))

    def test_history_is_checked_first(self):
        for at, value in enumerate(samples.NO_HISTORIES):
            with self.subTest(at):
                for one, other in [(0, 1), (0, 0), (-1, 0), (0, None), ("", "")]:
                    with self.assertRaises(NotAHistory):
                        fork_at(value, one, other)

    def test_items(self):
        history = ((), (7,), (3, 3))
        for at, wrong in enumerate(samples.NO_ITEMS):
            with self.subTest(at):
                for one, other in [(wrong, 0), (wrong, 2), (0, wrong), (2, wrong), (wrong, wrong)]:
                    with self.assertRaises(InvalidItem):
                        fork_at(history, one, other)

    def test_same_item(self):
        for history in [((),), ((), (1,)), ((), (7,), (3, 3))]:
            for item in range(len(history)):
                with self.assertRaises(SameItem):
                    fork_at(history, item, item)
            with self.assertRaises(InvalidItem):
                fork_at(history, len(history), len(history))


class HistoryOf(unittest.TestCase):
    def test_any_order_of_the_forks(self):
        for many, last in [(1, 0), (2, 3), (3, 3), (4, 2)]:
            for history in samples.histories(many, last):
                for given in itertools.permutations(samples.forks_by_words(history)):
                    self.assertEqual(history_of(many, list(given)), history)
        for given in itertools.permutations(WIDE_FORKS):
            self.assertEqual(history_of(7, list(given)), WIDE)

    def test_large_histories(self):
        for history in samples.large_histories():
            found = forks(history)
            for given in [found, found[::-1], found[1::2] + found[::2]]:
                self.assertEqual(history_of(20, given), history)

    def test_one_item(self):
        self.assertEqual(history_of(1, []), ((),))

    def test_kinds(self):
        found = history_of(7, WIDE_FORKS)
        self.assertIs(type(found), tuple)
        self.assertTrue(all(type(row) is tuple for row in found))

    def test_number_is_checked_first(self):
        for at, wrong in enumerate(samples.NO_NUMBERS):
            with self.subTest(at):
                for given in [[], WIDE_FORKS, None, (), [None], Hostile()]:
                    with self.assertRaises(InvalidNumber):
                        history_of(wrong, given)


def written(many, given):
    """The forks in a form that tells 1 from True and from 1.0."""
    return many, tuple(sorted(repr(fork) for fork in given))


class InvalidLists(unittest.TestCase):
    """history_of takes the lists that forks returns, in any order, and no other ones."""

    @classmethod
    def setUpClass(cls):
        cls.known = {}
        for many in range(1, 5):
            for history in samples.histories(many, 3):
                cls.known[written(many, samples.forks_by_words(history))] = history

    def check(self, many, given):
        """Compare with the known lists; days are at most 3, items at most four."""
        expected = self.known.get(written(many, given))
        if expected is not None:
            self.assertEqual(history_of(many, given), expected)
        else:
            self.refuse(many, given)

    def refuse(self, many, given):
        with self.assertRaises(InvalidForks):
            history_of(many, given)

    def lists(self):
        for many in range(1, 5):
            for history in samples.histories(many, 2):
                yield many, samples.forks_by_words(history)

    def test_a_fork_left_out(self):
        for many, given in self.lists():
            for at in range(len(given)):
                self.refuse(many, given[:at] + given[at + 1:])
        for at in range(5):
            self.refuse(7, WIDE_FORKS[:at] + WIDE_FORKS[at + 1:])

    def test_a_fork_twice(self):
        for many, given in self.lists():
            for fork in given:
                self.refuse(many, given + [fork])
        # The number of branches fits where another fork is missing.
        two = [(0, ((0, 1), (2, 3))), (1, ((0,), (1,))), (1, ((2,), (3,)))]
        self.assertEqual(history_of(4, two), ((), (1,), (0, 0), (0, 0, 1)))
        self.refuse(4, [two[0], two[1], two[1]])
        self.refuse(4, [two[0], two[2], two[2]])
        self.refuse(4, [two[0], two[0], two[1]])

    def test_another_day(self):
        for many, given in self.lists():
            for at, (_, branches) in enumerate(given):
                for day in range(4):
                    self.check(many, given[:at] + [(day, branches)] + given[at + 1:])

    def test_a_fork_on_the_day_of_the_one_around_it(self):
        for day in [0, 7, LONG]:
            outer, inner = (day, ((0, 1), (2,))), (day, ((0,), (1,)))
            self.refuse(3, [outer, inner])
            self.refuse(3, [inner, outer])
            self.assertEqual(history_of(3, [(day + 1, inner[1]), outer]), ((), (day + 1,), (day, day)))
        self.refuse(3, [(8, ((0, 1), (2,))), (7, ((0,), (1,)))])

    def test_branches_in_another_order(self):
        for many, given in self.lists():
            for at, (day, branches) in enumerate(given):
                for order in itertools.permutations(branches):
                    if order != branches:
                        self.refuse(many, given[:at] + [(day, order)] + given[at + 1:])

    def test_items_in_another_order(self):
        self.refuse(3, [(3, ((1, 0), (2,))), (7, ((0,), (1,)))])
        self.refuse(7, [(1, ((0, 1, 5, 3), (2, 4, 6)))] + WIDE_FORKS[1:])

    def test_an_item_exchanged_left_out_or_put_in(self):
        for many, given in self.lists():
            for at, (day, branches) in enumerate(given):
                for changed in changed_branches(branches, range(-1, many + 1)):
                    self.check(many, given[:at] + [(day, changed)] + given[at + 1:])

    def test_branches_put_together_or_parted(self):
        for many, given in self.lists():
            for at, (day, branches) in enumerate(given):
                for one, other in itertools.combinations(range(len(branches)), 2):
                    both = tuple(sorted(branches[one] + branches[other]))
                    rest = [branch for k, branch in enumerate(branches) if k not in (one, other)]
                    self.check(many, given[:at] + [(day, tuple(sorted([*rest, both])))] + given[at + 1:])
        self.refuse(3, [(3, ((0,), (1,), (2,))), (7, ((0,), (1,)))])
        self.refuse(3, [(3, ((0, 1), (2,)))])
        self.refuse(7, [(1, ((0, 1, 3, 5), (2, 6), (4,)))] + WIDE_FORKS[1:])

    def test_two_forks_with_one_branch_or_none(self):
        for fork in [(3, ((0, 1, 2),)), (3, ()), (3, ((),)), (3, ((0, 1, 2), ())), (7, ((0,),)), (7, ((2,), ()))]:
            self.refuse(3, [(3, ((0, 1), (2,))), (7, ((0,), (1,))), fork])
        self.refuse(1, [(0, ((0,),))])
        self.refuse(1, [(0, ())])
        self.refuse(1, [(0, ((0,), ()))])
        self.refuse(2, [(0, ((0,), (1,), ()))])
        self.refuse(2, [(0, ((), (0,), (1,)))])
        self.refuse(3, [(0, ((), (0,), (1,)))])
        self.refuse(2, [(0, ((0, 1), ()))])
        self.refuse(2, [(0, ((0,), (0,)))])
        self.refuse(2, [(0, ((0, 0), (1,)))])

    def test_another_number_of_items(self):
        for many, given in self.lists():
            for number in [1, 2, 3, 4, 5, 20]:
                self.check(number, given)
        for number in [1, 2, 3, 4, 5, 6, 8, 20, LONG]:
            self.refuse(number, WIDE_FORKS)
        self.refuse(LONG, [])
        self.refuse(2, [])

    def test_other_items(self):
        self.refuse(2, [(0, ((0,), (2,)))])
        self.refuse(2, [(0, ((1,), (2,)))])
        self.refuse(2, [(0, ((-1,), (0,)))])
        self.refuse(3, [(3, ((0, 1), (3,))), (7, ((0,), (1,)))])
        self.refuse(3, [(3, ((0, 1), (LONG,))), (7, ((0,), (1,)))])

    def test_forks_of_two_histories(self):
        self.refuse(3, [(3, ((0, 1), (2,))), (7, ((0,), (2,)))])
        self.refuse(3, [(3, ((0, 1), (2,))), (3, ((0, 2), (1,)))])
        self.refuse(4, [(3, ((0, 1), (2,))), (7, ((0,), (1,))), (9, ((2,), (3,)))])

    def test_one_fork_by_and_by(self):
        # Each fork has branches that are groups, but their items are met twice.
        self.refuse(4, [(1, ((0, 1), (2, 3))), (5, ((0,), (1,))), (5, ((0, 1), (2,)))])

    def test_other_kinds_in_place_of_the_list(self):
        for value in [(), tuple(WIDE_FORKS), dict(WIDE_FORKS), WIDE_FORKS[0], 0, 1, 7, LONG, *samples.OTHER_KINDS]:
            for items in [1, 7]:
                self.refuse(items, value)

    def test_other_kinds_in_place_of_a_fork(self):
        good = (3, ((0, 1), (2,)))
        for value in [[7, ((0,), (1,))], (), (7,), (7, ((0,), (1,)), ()), (7, ((0,), (1,)), None), 7, [],
                      *samples.OTHER_KINDS]:
            self.refuse(3, [good, value])
            self.refuse(3, [value, good])
            self.refuse(1, [value])

    def test_other_kinds_in_place_of_a_day(self):
        for value in samples.NO_DAYS:
            self.refuse(2, [(value, ((0,), (1,)))])
            self.refuse(3, [(0, ((0, 1), (2,))), (value, ((0,), (1,)))])

    def test_other_kinds_in_place_of_the_branches(self):
        for value in [[(0,), (1,)], (0, 1), 0, (), [], "01", *samples.OTHER_KINDS]:
            self.refuse(2, [(4, value)])

    def test_other_kinds_in_place_of_a_branch(self):
        for value in [[1], 1, (), [], "1", *samples.OTHER_KINDS]:
            self.refuse(2, [(4, ((0,), value))])
            self.refuse(2, [(4, (value, (1,)))])
            self.refuse(3, [(4, ((0,), value, (2,)))])

    def test_other_kinds_in_place_of_an_item(self):
        for value in [(), (1,), [], [1], *samples.OTHER_KINDS]:
            self.refuse(2, [(4, ((0,), (value,)))])
            self.refuse(2, [(4, ((value,), (1,)))])
            self.refuse(3, [(4, ((0, value), (2,))), (5, ((0,), (1,)))])

    def test_something_beside_the_forks(self):
        for value in [(), [], 0, 7, (7,), WIDE_FORKS, *samples.OTHER_KINDS]:
            self.refuse(7, WIDE_FORKS + [value])
            self.refuse(7, [value] + WIDE_FORKS)
            self.refuse(1, [value])

    def test_a_list_that_holds_itself(self):
        given = []
        given.append(given)
        self.refuse(1, given)
        self.refuse(2, [(0, given)])
        self.refuse(2, [(0, ((0,), (given,)))])


def changed_branches(branches, values):
    """The branches with one item exchanged, left out or put in."""
    for at, branch in enumerate(branches):
        others = [branches[:at], branches[at + 1:]]
        for k in range(len(branch)):
            yield (*others[0], branch[:k] + branch[k + 1:], *others[1])
            for value in values:
                yield (*others[0], branch[:k] + (value,) + branch[k + 1:], *others[1])
        for k in range(len(branch) + 1):
            for value in values:
                yield (*others[0], branch[:k] + (value,) + branch[k:], *others[1])


if __name__ == "__main__":
    unittest.main()
