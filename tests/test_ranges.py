import itertools
import unittest

import samples
from commondays.bounds import earliest, is_possible, keeps
from commondays.errors import (
    Contradiction, InvalidDay, InvalidItem, InvalidNumber, InvalidPair, InvalidTold, NotPossible, SameItem,
)
from commondays.ranges import day_range, history_on, possibly_one, surely_earlier, surely_not_later, surely_one
from samples import LONG, Hostile

TOLD = ((0, 1, 5, None), (0, 2, 0, 3))
BROKEN = ((0, 1, 5, None), (1, 2, 7, None), (0, 2, 0, 4))


def small_cases():
    """Numbers of items with possible bounds, and all histories that keep them, with a last day.

    Two days after the last told one: the bounds leave a pair on these only if it has no greatest day.
    """
    for many, last, tolds in samples.small_bounds():
        candidates = samples.histories(many, last + 2)
        for told in tolds[::3]:
            kept = samples.keeping(candidates, told)
            if kept:
                yield many, told, kept, last


def range_by_words(kept, last, one, other):
    days = {samples.day(history, one, other) for history in kept}
    return min(days), (max(days) if max(days) <= last else None)


def chain_bounds(first):
    """A long chain of lows from item 0 to item 19, with a high at its middle."""
    links = tuple((k, k + 1, first + 10, None) for k in range(19) if k != 9)
    return (*links, (9, 10, 0, first + 3))


class Examples(unittest.TestCase):
    def test_section_7(self):
        self.assertEqual(day_range(3, TOLD, 1, 2), (0, 3))
        self.assertEqual(day_range(3, TOLD, 0, 1), (5, None))
        self.assertEqual(history_on(3, TOLD, 1, 2, 2), ((), (5,), (2, 2)))
        self.assertIs(surely_earlier(3, TOLD, (1, 2), (0, 1)), True)
        told = ((0, 1, 5, None), (0, 2, 0, 3), (1, 2, 0, 3))
        self.assertIs(surely_not_later(3, told, (0, 2), (1, 2)), True)


class AllHistories(unittest.TestCase):
    """Against all histories of few items."""

    def test_day_range(self):
        for many, told, kept, last in small_cases():
            for one, other in itertools.permutations(range(many), 2):
                expected = range_by_words(kept, last, one, other)
                self.assertEqual(day_range(many, told, one, other), expected)
                days = {samples.day(history, one, other) for history in kept}
                self.assertEqual(days, set(range(min(days), max(days) + 1)))

    def test_history_on(self):
        for many, told, kept, last in small_cases():
            for one, other in itertools.permutations(range(many), 2):
                for day in range(last + 3):
                    with_day = [history for history in kept if samples.day(history, one, other) == day]
                    if with_day:
                        found = history_on(many, told, one, other, day)
                        self.assertEqual(found, samples.least_days(with_day))
                    else:
                        with self.assertRaises(NotPossible) as caught:
                            history_on(many, told, one, other, day)
                        expected = range_by_words(kept, last, one, other)
                        self.assertEqual((caught.exception.least, caught.exception.greatest), expected)

    def test_surely_one_and_possibly_one(self):
        for many, told, kept, last in small_cases():
            for one, other in itertools.permutations(range(many), 2):
                for day in range(last + 3):
                    known = [samples.day(history, one, other) >= day for history in kept]
                    self.assertIs(surely_one(many, told, one, other, day), all(known))
                    self.assertIs(possibly_one(many, told, one, other, day), any(known))

    def test_two_pairs(self):
        for many, told, kept, _ in small_cases():
            pairs = list(itertools.permutations(range(many), 2))
            for pair, other in itertools.product(pairs, repeat=2):
                both = {(samples.day(history, *pair), samples.day(history, *other)) for history in kept}
                self.assertIs(surely_earlier(many, told, pair, other), all(one < two for one, two in both))
                self.assertIs(surely_not_later(many, told, pair, other), all(one <= two for one, two in both))


class DayRange(unittest.TestCase):
    def check_ends(self, many, told, one, other):
        """A day is possible if the bounds and one more that tells it are possible together."""
        least, greatest = day_range(many, told, one, other)
        self.assertEqual(day_range(many, told, other, one), (least, greatest))
        possible = [least, least + 1, LONG * LONG] if greatest is None else [least, greatest, (least + greatest) // 2]
        for day in possible:
            if greatest is None or day <= greatest:
                self.assertTrue(samples.is_kept_by_some(many, (*told, (one, other, day, day))))
        for day in [least - 1] + ([] if greatest is None else [greatest + 1, LONG * LONG]):
            if day >= 0:
                self.assertFalse(samples.is_kept_by_some(many, (*told, (one, other, day, day))))

    def test_no_bounds(self):
        for many in [2, 3, 20]:
            for one, other in [(0, 1), (many - 1, 0)]:
                self.assertEqual(day_range(many, (), one, other), (0, None))

    def test_one_bound(self):
        for low, high in [(0, 0), (0, None), (0, 7), (7, 7), (LONG, LONG), (LONG, None), (3, LONG)]:
            for told in [((0, 1, low, high),), ((1, 0, low, high),)]:
                self.assertEqual(day_range(2, told, 0, 1), (low, high))
                self.assertEqual(day_range(2, told, 1, 0), (low, high))
                self.assertEqual(day_range(3, told, 0, 2), (0, None))

    def test_several_bounds_about_one_pair(self):
        told = ((0, 1, 2, 9), (1, 0, 4, None), (0, 1, 0, 8), (1, 0, 3, 20))
        for given in itertools.permutations(told):
            self.assertEqual(day_range(2, given, 0, 1), (4, 8))

    def test_a_high_of_a_neighbouring_pair(self):
        # With item 0 on day 5 item 1 cannot be one with item 2 later than item 0 is.
        self.assertEqual(day_range(3, ((0, 1, 5, None), (0, 2, 0, 4)), 1, 2), (0, 4))
        self.assertEqual(day_range(3, ((0, 1, 5, None), (0, 2, 0, 5)), 1, 2), (0, None))
        self.assertEqual(day_range(3, ((0, 1, 5, 5), (0, 2, 0, 5)), 1, 2), (0, None))
        self.assertEqual(day_range(3, ((0, 1, 6, None), (0, 2, 0, 5)), 1, 2), (0, 5))

    def test_a_high_across_two_pairs(self):
        joined = ((0, 2, 6, None), (1, 3, 7, None))
        for high, greatest in [(4, 4), (5, 5), (6, None), (7, None)]:
            for bound in [(2, 3, 0, high), (3, 2, 0, high)]:
                self.assertEqual(day_range(4, (*joined, bound), 0, 1), (0, greatest))
                self.assertEqual(day_range(4, (*joined, bound), 1, 0), (0, greatest))
                self.assertEqual(day_range(4, (*joined, bound), 0, 3), (0, greatest))
                self.assertEqual(day_range(4, (*joined, bound), 0, 2), (6, None))

    def test_a_long_chain(self):
        for first in [0, LONG - 10]:
            for one, other in [(0, 19), (19, 0), (9, 10), (0, 10), (3, 15)]:
                self.assertEqual(day_range(20, chain_bounds(first), one, other), (0, first + 3))
            self.assertEqual(day_range(20, chain_bounds(first), 0, 9), (first + 10, None))
            self.assertEqual(day_range(20, chain_bounds(first), 10, 19), (first + 10, None))

    def test_twenty_items_and_sixty_bounds(self):
        ends = []
        for _, told in samples.large_possible_bounds(8, 21):
            for one, other in [(0, 1), (19, 4), (7, 8), (12, 3), told[0][:2], told[30][:2], told[59][:2]]:
                self.check_ends(20, told, one, other)
                ends.append(day_range(20, told, one, other)[1])
        self.assertIn(None, ends)
        self.assertGreater(len(set(ends)), 10)

    def test_all_pairs_of_a_large_history(self):
        for history, told in samples.large_possible_bounds(4, 22):
            least = earliest(20, told)
            for one, other in itertools.combinations(range(20), 2):
                low, high = day_range(20, told, one, other)
                self.assertEqual(low, samples.day(least, one, other))
                self.assertLessEqual(low, samples.day(history, one, other))
                self.assertTrue(high is None or samples.day(history, one, other) <= high)

    def test_kinds(self):
        self.assertIs(type(day_range(3, TOLD, 1, 2)), tuple)


class HistoryOn(unittest.TestCase):
    def test_days_beyond_the_range(self):
        for day in [4, 5, LONG]:
            with self.assertRaises(NotPossible) as caught:
                history_on(3, TOLD, 1, 2, day)
            self.assertEqual((caught.exception.least, caught.exception.greatest), (0, 3))
        for day in [0, 4]:
            with self.assertRaises(NotPossible) as caught:
                history_on(3, TOLD, 0, 1, day)
            self.assertEqual((caught.exception.least, caught.exception.greatest), (5, None))
        self.assertEqual(history_on(3, TOLD, 1, 0, 5), ((), (5,), (0, 0)))
        self.assertEqual(history_on(3, TOLD, 0, 1, LONG), ((), (LONG,), (0, 0)))

    def test_twenty_items_and_sixty_bounds(self):
        beyond = 0
        for _, told in samples.large_possible_bounds(8, 23):
            for one, other in [(0, 1), (19, 4), told[0][:2], told[31][:2], told[59][:2]]:
                least, greatest = day_range(20, told, one, other)
                last = LONG * LONG if greatest is None else greatest
                for day in {least, last, (least + last) // 2}:
                    found = history_on(20, told, one, other, day)
                    self.assertEqual(found, samples.greatest_chains(20, (*told, (one, other, day, day))))
                    self.assertEqual(samples.day(found, one, other), day)
                    self.assertTrue(samples.is_history_by_words(found))
                    self.assertIs(keeps(found, told), True)
                for day in [least - 1, last + 1]:
                    if day >= 0 and (day < least or greatest is not None):
                        with self.assertRaises(NotPossible) as caught:
                            history_on(20, told, one, other, day)
                        self.assertEqual((caught.exception.least, caught.exception.greatest), (least, greatest))
                        beyond += 1
        self.assertGreater(beyond, 20)

    def test_kinds(self):
        found = history_on(3, TOLD, 1, 2, 2)
        self.assertIs(type(found), tuple)
        self.assertTrue(all(type(row) is tuple for row in found))


class SurelyOneAndPossiblyOne(unittest.TestCase):
    def check(self, told, one, other, day, surely, possibly):
        many = 20
        self.assertIs(surely_one(many, told, one, other, day), surely)
        self.assertIs(surely_one(many, told, other, one, day), surely)
        self.assertIs(possibly_one(many, told, one, other, day), possibly)
        self.assertIs(possibly_one(many, told, other, one, day), possibly)

    def test_both_ends(self):
        for _, told in samples.large_possible_bounds(8, 24):
            for one, other in [(0, 1), (19, 4), told[0][:2], told[31][:2], told[59][:2]]:
                least, greatest = day_range(20, told, one, other)
                self.check(told, one, other, 0, True, True)
                self.check(told, one, other, least, True, True)
                self.check(told, one, other, least + 1, False, greatest is None or greatest > least)
                if greatest is None:
                    self.check(told, one, other, LONG * LONG, False, True)
                else:
                    self.check(told, one, other, greatest, greatest == least, True)
                    self.check(told, one, other, greatest + 1, False, False)

    def test_day_0(self):
        self.check((), 0, 1, 0, True, True)
        self.check(((0, 1, 0, 0),), 0, 1, 0, True, True)
        self.check(((0, 1, 0, 0),), 0, 1, 1, False, False)


class TwoPairs(unittest.TestCase):
    def check(self, many, told, pair, other, earlier, not_later):
        for one, two in itertools.product([pair, pair[::-1]], [other, other[::-1]]):
            self.assertIs(surely_earlier(many, told, one, two), earlier)
            self.assertIs(surely_not_later(many, told, one, two), not_later)

    def test_one_pair_twice(self):
        for told in [(), TOLD, ((0, 1, 4, 4),), ((0, 1, 0, 0),), ((0, 1, LONG, LONG), (1, 2, 0, 3))]:
            for pair in [(0, 1), (1, 2), (0, 2)]:
                self.check(3, told, pair, pair, False, True)

    def test_one_day_apart(self):
        for day in [0, 1, LONG]:
            for more in [1, LONG]:
                told = ((0, 1, 0, day), (2, 3, day + more, None))
                self.check(4, told, (0, 1), (2, 3), True, True)
                self.check(4, told, (2, 3), (0, 1), False, False)
            told = ((0, 1, 0, day), (2, 3, day, None))
            self.check(4, told, (0, 1), (2, 3), False, True)
            self.check(4, told, (2, 3), (0, 1), False, False)
            told = ((0, 1, 0, day + 1), (2, 3, day, None))
            self.check(4, told, (0, 1), (2, 3), False, False)

    def test_a_common_item(self):
        # Items 0 and 1 are one on day 5, so item 2 parts from both on one day, if that is before.
        self.check(3, TOLD, (0, 2), (1, 2), False, True)
        self.check(3, TOLD, (1, 2), (0, 2), False, True)
        self.check(3, TOLD, (0, 2), (0, 1), True, True)
        self.check(3, TOLD, (0, 1), (0, 2), False, False)
        self.check(3, ((0, 1, 5, None),), (0, 2), (1, 2), False, False)
        self.check(3, ((0, 1, 5, None), (0, 2, 0, 5)), (0, 2), (1, 2), False, True)
        self.check(3, ((0, 1, 5, None), (0, 2, 0, 6)), (0, 2), (1, 2), False, False)
        self.check(3, ((0, 1, 5, None), (0, 2, 0, 6)), (1, 2), (0, 2), False, False)

    def test_two_pairs_that_draw_each_other_along(self):
        joined = ((0, 2, 6, None), (1, 3, 7, None))
        for high, not_later in [(4, True), (6, True), (7, False), (None, False)]:
            told = (*joined, (0, 1, 0, high))
            self.check(4, told, (0, 1), (2, 3), False, not_later)
            self.check(4, told, (0, 1), (0, 3), False, high is not None)
        self.check(4, (*joined, (0, 1, 0, 7)), (0, 1), (0, 3), False, True)
        self.check(4, (*joined, (0, 1, 0, 8)), (0, 1), (0, 3), False, False)

    def test_without_a_greatest_day(self):
        self.check(4, (), (0, 1), (2, 3), False, False)
        self.check(4, (), (0, 1), (0, 2), False, False)
        self.check(4, ((2, 3, LONG, None),), (0, 1), (2, 3), False, False)
        self.check(4, ((2, 3, LONG, None),), (0, 2), (0, 3), False, False)

    def test_twenty_items_and_sixty_bounds(self):
        answers = set()
        for _, told in samples.large_possible_bounds(8, 25):
            pairs = [(0, 1), (19, 4), (4, 0), (2, 9), told[0][:2], told[31][:2]]
            start = samples.greatest_chains(20, told)
            for pair in pairs:
                greatest = day_range(20, told, *pair)[1]
                late = LONG * LONG if greatest is None else greatest
                along = samples.greatest_chains(20, (*told, (*pair, late, None)))
                for other in pairs:
                    earlier = late < samples.day(start, *other)
                    not_later = late <= samples.day(along, *other)
                    answers.add((earlier, not_later))
                    self.check(20, told, pair, other, earlier, not_later)
        self.assertEqual(answers, {(True, True), (False, True), (False, False)})

    def test_a_long_chain(self):
        for first in [0, LONG - 10]:
            told = chain_bounds(first)
            self.check(20, told, (0, 19), (3, 15), False, True)
            self.check(20, told, (3, 15), (19, 0), False, True)
            self.check(20, told, (0, 19), (0, 9), True, True)
            self.check(20, told, (0, 9), (0, 19), False, False)
            self.check(20, told, (0, 9), (10, 19), False, False)


class Errors(unittest.TestCase):
    def calls(self):
        """Each function with good arguments behind the bounds."""
        return [
            (day_range, (1, 2)), (history_on, (1, 2, 2)), (surely_one, (1, 2, 2)), (possibly_one, (1, 2, 2)),
            (surely_earlier, ((1, 2), (0, 1))), (surely_not_later, ((1, 2), (0, 1))),
        ]

    def wrong_rests(self, rest):
        return [rest, (None,) * len(rest), (0,) * len(rest), (Hostile(),) * len(rest), ((),) * len(rest)]

    def test_number_is_checked_first(self):
        for function, good in self.calls():
            for at, wrong in enumerate(samples.NO_NUMBERS):
                with self.subTest(function.__name__, at=at):
                    for told, rest in itertools.product([TOLD, BROKEN, (), [], None], self.wrong_rests(good)):
                        with self.assertRaises(InvalidNumber):
                            function(wrong, told, *rest)

    def test_no_told_bounds(self):
        for function, good in self.calls():
            for at, wrong in enumerate(samples.NO_TOLDS):
                with self.subTest(function.__name__, at=at):
                    for rest in self.wrong_rests(good):
                        with self.assertRaises(InvalidTold):
                            function(3, wrong, *rest)

    def test_contradiction(self):
        for function, good in self.calls():
            for rest in self.wrong_rests(good):
                for told, index in [(BROKEN, 2), (BROKEN[::-1], 0), ((*TOLD, (0, 1, 0, 4), (0, 1, 0, 4)), 2)]:
                    self.assertIs(is_possible(3, told), False)
                    with self.subTest(function.__name__), self.assertRaises(Contradiction) as caught:
                        function(3, told, *rest)
                    self.assertEqual(caught.exception.index, index)

    def test_items(self):
        for function in [day_range, history_on, surely_one, possibly_one]:
            days = [()] if function == day_range else [(2,), (-1,), (None,), (LONG,)]
            for day in days:
                for at, wrong in enumerate(samples.NO_ITEMS):
                    with self.subTest(function.__name__, at=at):
                        for one, other in [(wrong, 0), (wrong, 2), (0, wrong), (2, wrong), (wrong, wrong)]:
                            with self.assertRaises(InvalidItem):
                                function(3, TOLD, one, other, *day)
                for item in range(3):
                    with self.assertRaises(SameItem):
                        function(3, TOLD, item, item, *day)
                with self.assertRaises(InvalidItem):
                    function(3, TOLD, 3, 3, *day)
                with self.assertRaises(SameItem):
                    function(1, (), 0, 0, *day)

    def test_days(self):
        for function in [history_on, surely_one, possibly_one]:
            for at, wrong in enumerate(samples.NO_DAYS):
                with self.subTest(function.__name__, at=at), self.assertRaises(InvalidDay):
                    function(3, TOLD, 0, 1, wrong)

    def test_pairs(self):
        for function in [surely_earlier, surely_not_later]:
            for at, wrong in enumerate(samples.NO_PAIRS):
                with self.subTest(function.__name__, at=at):
                    for pair, other in [(wrong, (0, 1)), ((0, 1), wrong), (wrong, wrong)]:
                        with self.assertRaises(InvalidPair):
                            function(3, TOLD, pair, other)
            for pair in [(0, 1), (0, 0), (1, 0)]:
                with self.assertRaises(InvalidPair):
                    function(1, (), pair, pair)

    def test_several_wrong_arguments(self):
        numbers = (3, [(wrong, InvalidNumber) for wrong in (0, True, None)])
        tolds = (TOLD, [
            (list(TOLD), InvalidTold), (((0, 3, 0, None),), InvalidTold), ((*BROKEN, None), InvalidTold),
            (BROKEN, Contradiction),
        ])
        one = (1, [(wrong, InvalidItem) for wrong in (3, -1, True, None)])
        other = (2, [(wrong, InvalidItem) for wrong in (3, -1, False, "0")] + [(1, SameItem)])
        day = (3, [(wrong, InvalidDay) for wrong in (-1, True, None, 2.0)])
        late = (day[0], day[1] + [(4, NotPossible), (LONG, NotPossible)])
        samples.check_errors(self, day_range, [numbers, tolds, one, other])
        samples.check_errors(self, history_on, [numbers, tolds, one, other, late])
        samples.check_errors(self, surely_one, [numbers, tolds, one, other, day])
        samples.check_errors(self, possibly_one, [numbers, tolds, one, other, day])
        pair = ((1, 2), [(wrong, InvalidPair) for wrong in ((1, 1), (0, 3), [0, 1], None)])
        samples.check_errors(self, surely_earlier, [numbers, tolds, pair, pair])
        samples.check_errors(self, surely_not_later, [numbers, tolds, pair, pair])


if __name__ == "__main__":
    unittest.main()
