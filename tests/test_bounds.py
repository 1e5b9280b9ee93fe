import unittest

import samples
from commondays.bounds import conflict, earliest, is_possible, keeps
from commondays.errors import Contradiction, InvalidNumber, InvalidTold, NotAHistory
from samples import LONG, Hostile


class Examples(unittest.TestCase):
    def test_section_6(self):
        self.assertEqual(earliest(3, ((0, 1, 5, None), (0, 2, 0, 3))), ((), (5,), (0, 0)))
        found = conflict(3, ((0, 1, 5, None), (1, 2, 7, None), (0, 2, 0, 4)))
        self.assertEqual(found, (2, (0, 1, 2)))


class AllHistories(unittest.TestCase):
    """Against all histories of few items; a day after the told ones stands for all later ones."""

    def test_is_possible_conflict_and_earliest(self):
        for many, last, tolds in samples.small_bounds():
            candidates = samples.histories(many, last)
            for told in tolds:
                kept = samples.keeping(candidates, told)
                self.assertIs(is_possible(many, told), bool(kept))
                self.assertEqual(conflict(many, told) is None, bool(kept))
                if kept:
                    self.assertEqual(earliest(many, told), samples.least_days(kept))
                else:
                    with self.assertRaises(Contradiction):
                        earliest(many, told)

    def test_the_histories_written_out(self):
        two_days = [
            ((), (0,), (0, 0)), ((), (1,), (0, 0)), ((), (0,), (1, 0)), ((), (0,), (0, 1)), ((), (1,), (1, 1)),
        ]
        self.assertEqual(sorted(samples.histories(3, 1)), sorted(two_days))
        for told in samples.one_bound_each(3, 1):
            kept = [history for history in two_days if keeps(history, told)]
            self.assertEqual(kept, samples.keeping(two_days, told))
            self.assertIs(is_possible(3, told), bool(kept))

    def test_keeps(self):
        for many, last, tolds in samples.small_bounds():
            candidates = samples.histories(many, last + 1)
            for told in tolds[::5]:
                kept = samples.keeping(candidates, told)
                self.assertEqual([history for history in candidates if keeps(history, told)], kept)


class Conflict(unittest.TestCase):
    def check(self, many, told):
        """Compare the answer with its definition; returns the index."""
        found = conflict(many, told)
        best = samples.greatest_chains(many, told)
        broken = [
            index for index, (one, other, _, high) in enumerate(told)
            if high is not None and high < samples.day(best, one, other)
        ]
        if not broken:
            self.assertIsNone(found)
            self.assertEqual(earliest(many, told), best)
            return None
        self.assertIs(type(found), tuple)
        index, chain = found
        self.assertEqual(index, broken[0])
        one, other, _, high = told[index]
        self.assertIs(type(chain), tuple)
        self.assertEqual((chain[0], chain[-1]), (one, other))
        self.assertEqual(len(set(chain)), len(chain))
        self.assertTrue(all(type(item) is int and 0 <= item < many for item in chain))
        self.assertGreater(samples.chain_day(told, chain), high)
        with self.assertRaises(Contradiction) as caught:
            earliest(many, told)
        self.assertEqual(caught.exception.index, index)
        return index

    def test_few_items(self):
        for many, _, tolds in samples.small_bounds():
            for told in tolds:
                self.check(many, told)

    def test_least_index(self):
        told = ((0, 2, 0, 9), (0, 2, 0, 4), (2, 0, 0, 3), (0, 1, 5, None), (1, 2, 7, None))
        self.assertEqual(self.check(3, told), 1)
        self.assertEqual(self.check(3, told[:1] + told[2:]), 1)
        self.assertEqual(self.check(3, told[::-1]), 2)
        self.assertEqual(self.check(3, (told[0], *told[3:])), None)

    def test_one_pair(self):
        self.assertEqual(conflict(2, ((0, 1, 5, None), (0, 1, 0, 4))), (1, (0, 1)))
        self.assertEqual(conflict(2, ((0, 1, 5, None), (1, 0, 0, 4))), (1, (1, 0)))
        self.assertEqual(conflict(2, ((1, 0, 0, 4), (0, 1, 5, 9))), (0, (1, 0)))
        self.assertEqual(conflict(2, ((1, 0, 3, 4), (0, 1, 5, 9), (0, 1, 6, 6), (0, 1, 2, 3))), (0, (1, 0)))
        self.assertIsNone(conflict(2, ((1, 0, 3, 5), (0, 1, 5, 9), (0, 1, 0, None))))

    def test_a_low_that_is_its_own_high(self):
        for day in [0, 1, LONG]:
            self.assertIsNone(conflict(2, ((0, 1, day, day),)))
            self.assertIsNone(conflict(2, ((0, 1, day, day), (1, 0, day, day))))
            self.assertEqual(conflict(2, ((0, 1, day, day), (1, 0, day + 1, day + 1))), (0, (0, 1)))

    def test_one_long_chain(self):
        for first in [1, LONG - 20]:
            links = tuple((k, k + 1, first + k, None) for k in range(19))
            for turned in [links, links[::-1], links[::2] + links[1::2]]:
                self.assertIsNone(conflict(20, turned + ((19, 0, 0, first),)))
                self.assertEqual(conflict(20, turned + ((0, 19, 0, first - 1),)), (19, tuple(range(20))))
                self.assertEqual(conflict(20, ((19, 0, 0, first - 1),) + turned), (0, tuple(range(19, -1, -1))))

    def test_twenty_items_and_sixty_bounds(self):
        broken = 0
        for _, told in samples.large_possible_bounds(12, 11):
            self.assertIsNone(self.check(20, told))
            for at in range(0, 60, 7):
                one, other, low, _ = told[at]
                self.check(20, (*told[:at], (one, other, low, low), *told[at + 1:]))
                least = samples.day(earliest(20, told), one, other)
                if least:
                    changed = (*told[:at], (other, one, 0, least - 1), *told[at:])
                    broken += self.check(20, changed) is not None
        self.assertGreater(broken, 20)


class Earliest(unittest.TestCase):
    def test_no_bounds(self):
        for many in [1, 2, 3, 20]:
            self.assertEqual(earliest(many, ()), samples.star_history(many, 0))
            self.assertIs(is_possible(many, ()), True)
            self.assertIsNone(conflict(many, ()))
            self.assertIs(keeps(samples.star_history(many, LONG), ()), True)

    def test_one_item(self):
        self.assertEqual(earliest(1, ()), ((),))
        self.assertIs(keeps(((),), ()), True)

    def test_high_bounds_do_not_count(self):
        self.assertEqual(earliest(3, ((0, 1, 0, 7), (1, 2, 2, 9), (0, 2, 0, None))), ((), (0,), (0, 2)))

    def test_several_bounds_about_one_pair(self):
        told = ((0, 1, 3, None), (1, 0, 5, 9), (0, 1, 4, 6), (1, 0, 0, 5))
        self.assertEqual(earliest(2, told), ((), (5,)))
        self.assertEqual(earliest(2, told[::-1]), ((), (5,)))

    def test_days_told_exactly(self):
        for history in samples.large_histories():
            told = tuple((i, j, history[i][j], history[i][j]) for i in range(20) for j in range(i))
            self.assertEqual(earliest(20, told), history)
            self.assertEqual(earliest(20, told[::-1]), history)

    def test_twenty_items_and_sixty_bounds(self):
        for history, told in samples.large_possible_bounds(20, 12):
            found = earliest(20, told)
            self.assertEqual(found, samples.greatest_chains(20, told))
            self.assertTrue(samples.is_history_by_words(found))
            self.assertIs(keeps(found, told), True)
            self.assertIs(keeps(history, told), True)
            self.assertTrue(all(found[i][j] <= history[i][j] for i in range(20) for j in range(i)))

    def test_kinds(self):
        found = earliest(3, ((0, 1, 5, None), (0, 2, 0, 3)))
        self.assertIs(type(found), tuple)
        self.assertTrue(all(type(row) is tuple for row in found))

    def test_larger_than_the_limits(self):
        links = tuple((k, k + 1, LONG * LONG + k, None) for k in range(39))
        self.assertEqual(earliest(40, links), tuple(tuple(LONG * LONG + j for j in range(i)) for i in range(40)))


class Keeps(unittest.TestCase):
    def test_both_ends(self):
        for day in [0, 1, 5, LONG]:
            history = ((), (day,))
            for one, other in [(0, 1), (1, 0)]:
                self.assertIs(keeps(history, ((one, other, day, day),)), True)
                self.assertIs(keeps(history, ((one, other, day, None),)), True)
                self.assertIs(keeps(history, ((one, other, 0, day),)), True)
                self.assertIs(keeps(history, ((one, other, day + 1, None),)), False)
                if day:
                    self.assertIs(keeps(history, ((one, other, 0, day - 1),)), False)

    def test_one_broken_bound_anywhere(self):
        for history, told in samples.large_possible_bounds(4, 13):
            for at in range(60):
                one, other, _, _ = told[at]
                day = samples.day(history, one, other)
                self.assertIs(keeps(history, (*told[:at], (one, other, day + 1, None), *told[at + 1:])), False)

    def test_bounds_that_are_not_possible(self):
        self.assertIs(keeps(((), (5,)), ((0, 1, 6, None), (0, 1, 0, 4))), False)


class Errors(unittest.TestCase):
    def test_number_is_checked_first(self):
        for function in [is_possible, conflict, earliest]:
            for at, wrong in enumerate(samples.NO_NUMBERS):
                with self.subTest(function.__name__, at=at):
                    for told in [(), ((0, 1, 0, None),), [], None, Hostile(), ((0, 1, 5, 4),)]:
                        with self.assertRaises(InvalidNumber):
                            function(wrong, told)

    def test_history_is_checked_first(self):
        for at, wrong in enumerate(samples.NO_HISTORIES):
            with self.subTest(at):
                for told in [(), ((0, 1, 0, None),), [], None, Hostile(), ((0, 1, 5, 4),)]:
                    with self.assertRaises(NotAHistory):
                        keeps(wrong, told)

    def test_no_told_bounds(self):
        for at, wrong in enumerate(samples.NO_TOLDS):
            with self.subTest(at):
                for function in [is_possible, conflict, earliest]:
                    with self.assertRaises(InvalidTold):
                        function(3, wrong)
                with self.assertRaises(InvalidTold):
                    keeps(((), (7,), (3, 3)), wrong)

    def test_items_of_a_larger_number(self):
        for many in range(1, 5):
            history = samples.star_history(many, 3)
            for bound in [(0, many, 0, None), (many, 0, 0, None), (many, many + 1, 0, None)]:
                for function in [is_possible, conflict, earliest]:
                    with self.assertRaises(InvalidTold):
                        function(many, (bound,))
                with self.assertRaises(InvalidTold):
                    keeps(history, (bound,))
            told = ((0, many, 0, None), (many, 0, 3, 3))
            self.assertIs(is_possible(many + 1, told), True)
            self.assertIs(keeps(samples.star_history(many + 1, 3), told), True)

    def test_told_bounds_are_checked_before_the_contradiction(self):
        broken = ((0, 1, 5, None), (0, 1, 0, 4))
        for function in [is_possible, conflict, earliest]:
            for wrong in [(0, 1, 5, 4), (0, 0, 0, 0), None, (0, 3, 0, None)]:
                with self.assertRaises(InvalidTold):
                    function(3, (*broken, wrong))
                with self.assertRaises(InvalidTold):
                    function(3, (wrong, *broken))

    def test_several_wrong_arguments(self):
        numbers = [(wrong, InvalidNumber) for wrong in (0, -1, True, None, 2.0)]
        tolds = [(wrong, InvalidTold) for wrong in ([], ((0, 3, 0, None),), ((0, 1, 5, 4),), None)]
        broken = [(((0, 1, 5, None), (0, 1, 0, 4)), Contradiction)]
        good = ((0, 1, 5, None),)
        samples.check_errors(self, is_possible, [(3, numbers), (good, tolds)])
        samples.check_errors(self, conflict, [(3, numbers), (good, tolds)])
        samples.check_errors(self, earliest, [(3, numbers), (good, tolds + broken)])
        histories = [(wrong, NotAHistory) for wrong in (3, ((), (5,), (5, 2)), [(), (5,)], None)]
        samples.check_errors(self, keeps, [(((), (5,), (5, 5)), histories), (good, tolds)])


if __name__ == "__main__":
    unittest.main()
