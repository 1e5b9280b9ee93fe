import itertools
import math
import random
import unittest
from collections import Counter

import samples
from commondays.errors import InvalidPairs, NotAHistory
from commondays.telling import count_fewest, determines, fewest_pairs, missing, some_pairs
from samples import LONG, Hostile

# A fork with three branches, one of which falls into two again.
WIDE = ((), (3,), (1, 1), (3, 3, 1), (1, 1, 3, 1), (3, 8, 1, 3, 1), (1, 1, 9, 1, 3, 1))
WIDE_PARTED = [
    (1, (0, 1, 3, 5), (2, 4, 6)),
    (3, (0,), (1, 5)),
    (3, (0,), (3,)),
    (3, (1, 5), (3,)),
    (3, (2, 6), (4,)),
    (8, (1,), (5,)),
    (9, (2,), (6,)),
]


def small_cases():
    """Small histories, with all histories to compare them with.

    Where pairs do not determine a history, two of its branches may be one for a day longer; so one more day is enough.
    """
    for many, last in [(1, 0), (2, 2), (3, 2), (4, 1)]:
        yield many, samples.histories(many, last), samples.histories(many, last + 1)


def pairs_of(many):
    return list(itertools.combinations(range(many), 2))


def subsets(pairs):
    return [list(chosen) for count in range(len(pairs) + 1) for chosen in itertools.combinations(pairs, count)]


def told_days(history, pairs):
    return tuple(samples.day(history, *pair) for pair in pairs)


def parted_by_words(history):
    """The day and each two branches of each fork, by the definition of the forks."""
    return [
        (day, one, other) for day, branches in samples.forks_by_words(history)
        for one, other in itertools.combinations(branches, 2)
    ]


def missing_by_words(parted, pairs):
    return [
        (day, branch, other) for day, branch, other in parted
        if not any(pair in pairs or pair[::-1] in pairs for pair in itertools.product(branch, other))
    ]


def parted_of_large(history):
    """The same as parted_by_words, for days that are too many to go over."""
    found = []
    for day in sorted({day for row in history for day in row}):
        for group in samples.groups_by_words(history, day):
            branches = [branch for branch in samples.groups_by_words(history, day + 1) if set(branch) <= set(group)]
            found += [(day, one, other) for one, other in itertools.combinations(branches, 2)]
    return found


class Examples(unittest.TestCase):
    def test_section_8(self):
        self.assertIs(determines(((), (4,), (4, 4)), [(0, 1), (1, 2)]), False)
        self.assertEqual(missing(((), (4,), (4, 4)), [(0, 1), (1, 2)]), [(4, (0,), (2,))])
        self.assertEqual(count_fewest(((), (7,), (3, 3))), 2)


class AllHistories(unittest.TestCase):
    """Against all histories of few items and all sets of pairs."""

    def test_determines_and_missing(self):
        for many, some, candidates in small_cases():
            for pairs in subsets(pairs_of(many)):
                same_days = Counter(told_days(history, pairs) for history in candidates)
                for history in some:
                    alone = same_days[told_days(history, pairs)] == 1
                    self.assertIs(determines(history, pairs), alone)
                    self.assertEqual(missing(history, pairs) == [], alone)
                    self.assertEqual(missing(history, pairs), missing_by_words(parted_by_words(history), pairs))

    def test_fewest_pairs(self):
        for many, some, candidates in small_cases():
            choices = subsets(pairs_of(many))
            same_days = [Counter(told_days(history, pairs) for history in candidates) for pairs in choices]
            for history in some:
                enough = [
                    pairs for pairs, found in zip(choices, same_days) if found[told_days(history, pairs)] == 1
                ]
                fewest = [pairs for pairs in enough if len(pairs) == len(enough[0])]
                self.assertEqual(fewest_pairs(history), len(enough[0]))
                self.assertIn(some_pairs(history), fewest)
                self.assertEqual(count_fewest(history), len(fewest))


class Missing(unittest.TestCase):
    def test_nothing_told(self):
        self.assertEqual(missing(WIDE, []), WIDE_PARTED)
        for history in samples.large_histories():
            self.assertEqual(missing(history, []), parted_of_large(history))

    def test_two_forks_on_one_day(self):
        history = ((), (5,), (1, 1), (1, 1, 5))
        self.assertEqual(missing(history, []), [(1, (0, 1), (2, 3)), (5, (0,), (1,)), (5, (2,), (3,))])
        self.assertEqual(missing(history, [(3, 0)]), [(5, (0,), (1,)), (5, (2,), (3,))])
        self.assertEqual(missing(history, [(2, 3), (1, 2)]), [(5, (0,), (1,))])

    def test_one_pair_anywhere(self):
        for one, other in itertools.permutations(range(7), 2):
            left = missing(WIDE, [(one, other)])
            gone = [part for part in WIDE_PARTED if part not in left]
            self.assertEqual(left, [part for part in WIDE_PARTED if part not in gone])
            self.assertEqual(len(gone), 1)
            day, branch, branch_of_other = gone[0]
            self.assertEqual(day, samples.day(WIDE, one, other))
            self.assertEqual({one in branch, one in branch_of_other}, {True, False})
            self.assertEqual({other in branch, other in branch_of_other}, {True, False})

    def test_a_fork_with_three_branches(self):
        told = [(0, 2), (2, 4), (1, 5), (2, 6)]
        self.assertEqual(missing(WIDE, told), WIDE_PARTED[1:4])
        self.assertEqual(missing(WIDE, told + [(0, 3)]), [WIDE_PARTED[1], WIDE_PARTED[3]])
        self.assertEqual(missing(WIDE, told + [(0, 3), (5, 0)]), [WIDE_PARTED[3]])
        self.assertEqual(missing(WIDE, told + [(0, 3), (5, 0), (3, 5)]), [])

    def test_many_branches(self):
        star = samples.star_history(20, LONG)
        pairs = pairs_of(20)
        self.assertEqual(missing(star, pairs), [])
        for one, other in pairs[::17]:
            rest = [pair for pair in pairs if pair != (one, other)]
            self.assertEqual(missing(star, rest), [(LONG, (one,), (other,))])
            self.assertIs(determines(star, rest), False)
        self.assertIs(determines(star, pairs + pairs[:10]), True)

    def test_drawn_histories(self):
        draw = random.Random(31)
        for at in range(30):
            history = samples.drawn_history(draw, 20, [4, 30, LONG][at % 3])
            parted = parted_of_large(history)
            pairs = [tuple(draw.sample(range(20), 2)) for _ in range(draw.randint(0, 200))]
            self.assertEqual(missing(history, pairs), missing_by_words(parted, pairs))
            self.assertIs(determines(history, pairs), missing_by_words(parted, pairs) == [])

    def test_order_and_repetition_of_the_pairs(self):
        told = [(0, 2), (2, 4), (1, 5), (5, 0)]
        expected = missing(WIDE, told)
        for pairs in [told[::-1], [pair[::-1] for pair in told], told * 3, told + [(2, 0), (4, 2)], told * 50]:
            self.assertEqual(missing(WIDE, pairs), expected)
            self.assertIs(determines(WIDE, pairs), False)

    def test_one_item(self):
        self.assertEqual(missing(((),), []), [])
        self.assertIs(determines(((),), []), True)

    def test_kinds(self):
        found = missing(WIDE, [])
        self.assertIs(type(found), list)
        for part in found:
            self.assertEqual([type(value) for value in part], [int, tuple, tuple])
            self.assertIs(type(part), tuple)


class FewestPairs(unittest.TestCase):
    def check(self, history, fewest, ways):
        self.assertEqual(fewest_pairs(history), fewest)
        self.assertEqual(count_fewest(history), ways)
        pairs = some_pairs(history)
        self.assertIs(type(pairs), list)
        self.assertEqual(len(pairs), fewest)
        self.assertEqual(pairs, sorted(set(pairs)))
        for pair in pairs:
            self.assertIs(type(pair), tuple)
            self.assertLess(pair[0], pair[1])
            self.assertIs(determines(history, [other for other in pairs if other != pair]), False)
        self.assertIs(determines(history, pairs), True)

    def test_one_item(self):
        self.check(((),), 0, 1)

    def test_two_items(self):
        for day in [0, LONG]:
            self.check(((), (day,)), 1, 1)

    def test_many_branches(self):
        self.check(WIDE, 7, 4 * 3 * 2 * 1 * 2 * 2 * 1 * 1)
        for day in [0, LONG]:
            self.check(samples.star_history(20, day), 190, 1)

    def test_two_branches_at_each_fork(self):
        for first in [0, LONG - 20]:
            self.check(samples.comb_history(20, first), 19, math.factorial(19))
        self.check(samples.halves_history(16, 1), 15, 64 * 16 ** 2 * 4 ** 4)

    def test_drawn_histories(self):
        draw = random.Random(32)
        for at in range(12):
            history = samples.drawn_history(draw, 20, [3, 30, LONG][at % 3])
            parted = parted_of_large(history)
            ways = math.prod(len(branch) * len(other) for _, branch, other in parted)
            self.check(history, len(parted), ways)


class Errors(unittest.TestCase):
    def test_history_is_checked_first(self):
        for at, wrong in enumerate(samples.NO_HISTORIES):
            with self.subTest(at):
                for function in [fewest_pairs, some_pairs, count_fewest]:
                    with self.assertRaises(NotAHistory):
                        function(wrong)
                for function in [determines, missing]:
                    for pairs in [[], [(0, 1)], (), None, [(0, 0)], Hostile()]:
                        with self.assertRaises(NotAHistory):
                            function(wrong, pairs)

    def test_no_list_of_pairs(self):
        history = ((), (7,), (3, 3))
        values = [(), ((0, 1),), (0, 1), {}, {(0, 1): 0}, {(0, 1)}, 0, LONG, "", "01", *samples.OTHER_KINDS]
        for wrong in samples.NO_PAIRS:
            values += [[wrong], [wrong, (0, 1)], [(0, 1), wrong], [(0, 1), (2, 0), wrong, (0, 1)]]
        for at, value in enumerate(values):
            with self.subTest(at):
                for function in [determines, missing]:
                    with self.assertRaises(InvalidPairs):
                        function(history, value)

    def test_pairs_of_more_items(self):
        for many in range(1, 5):
            history = samples.star_history(many, 2)
            for pair in [(0, many), (many, 0), (many, many + 1)]:
                for function in [determines, missing]:
                    with self.assertRaises(InvalidPairs):
                        function(history, [pair])
            self.assertIs(determines(samples.star_history(many + 1, 2), [(0, many)]), many == 1)

    def test_a_list_that_holds_itself(self):
        pairs = []
        pairs.append(pairs)
        for function in [determines, missing]:
            with self.assertRaises(InvalidPairs):
                function(((), (7,)), pairs)

    def test_several_wrong_arguments(self):
        histories = [(wrong, NotAHistory) for wrong in (3, ((), (5,), (5, 2)), [(), (5,)], None)]
        pairs = [(wrong, InvalidPairs) for wrong in ([(0, 3)], [(0, 1), (1, 1)], ((0, 1),), [[0, 1]], None)]
        for function in [determines, missing]:
            samples.check_errors(self, function, [(((), (5,), (5, 5)), histories), ([(0, 1)], pairs)])


if __name__ == "__main__":
    unittest.main()
