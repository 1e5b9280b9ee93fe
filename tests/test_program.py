"""The files of the package together: what one of them returns is taken by all others, and they agree."""

import random
import time
import unittest
from itertools import combinations, permutations

import samples
from commondays.bounds import conflict, earliest, is_possible, keeps
from commondays.counting import count_histories, histories
from commondays.forks import fork_at, forks, history_of
from commondays.kinds import StrictTold
from commondays.live import LiveTold
from commondays.nearest import least_error, nearest_history, worst_pair
from commondays.objects import History, Told
from commondays.ranges import day_range, history_on, possibly_one, surely_earlier, surely_not_later, surely_one
from commondays.tables import bad_triple, day_of, groups, is_history, is_table
from commondays.telling import count_fewest, determines, fewest_pairs, missing, some_pairs
from commondays.texts import format_history, format_told, parse_history, parse_told
from commondays.together import greater, lesser, part, put_together
from samples import LONG


def bounds_around(draw, history, count):
    """Bounds that a history keeps."""
    told = []
    for _ in range(count):
        one, other = draw.sample(range(len(history)), 2)
        day = samples.day(history, one, other)
        low = draw.choice([day, max(0, day - 1), draw.randint(0, day), 0])
        told.append((one, other, low, draw.choice([day, day + 1, day + draw.randint(0, 9), None])))
    return tuple(told)


def cases():
    """Histories of up to ten items, with bounds that they keep."""
    draw = random.Random(111)
    for at in range(36):
        many = 1 + at % 10
        history = samples.drawn_history(draw, many, [1, 3, 9, LONG][at % 4])
        yield draw, history, bounds_around(draw, history, draw.choice([1, 3, 10, 30]) if many > 1 else 0)


def is_below(one, other):
    return all(one[i][j] <= other[i][j] for i in range(len(one)) for j in range(i))


class HistoriesAndBounds(unittest.TestCase):
    def test_a_history_keeps_its_bounds(self):
        for _, history, told in cases():
            many = len(history)
            self.assertIs(keeps(history, told), True)
            self.assertIs(is_possible(many, told), True)
            self.assertIsNone(conflict(many, told))
            self.assertTrue(is_below(earliest(many, told), history))
            self.assertIs(keeps(earliest(many, told), told), True)

    def test_the_day_of_each_pair_is_in_its_range(self):
        for _, history, told in cases():
            many = len(history)
            for one, other in permutations(range(many), 2):
                day = day_of(history, one, other)
                least, greatest = day_range(many, told, one, other)
                self.assertTrue(least <= day and (greatest is None or day <= greatest))
                self.assertIs(possibly_one(many, told, one, other, day), True)
                self.assertIs(surely_one(many, told, one, other, day + 1), False)

    def test_a_history_at_both_ends_of_each_range(self):
        for _, history, told in cases():
            many = len(history)
            for one, other in combinations(range(many), 2):
                least, greatest = day_range(many, told, one, other)
                for day in [least, least + 5 if greatest is None else greatest]:
                    found = history_on(many, told, one, other, day)
                    self.assertIs(is_history(found), True)
                    self.assertIs(keeps(found, told), True)
                    self.assertEqual(day_of(found, one, other), day)
                    self.assertTrue(is_below(earliest(many, told), found))

    def test_what_is_certain_holds_for_the_history(self):
        for draw, history, told in cases():
            many = len(history)
            if many < 3:
                continue
            for _ in range(30):
                pair, other = tuple(draw.sample(range(many), 2)), tuple(draw.sample(range(many), 2))
                if surely_earlier(many, told, pair, other):
                    self.assertLess(day_of(history, *pair), day_of(history, *other))
                    self.assertIs(surely_not_later(many, told, pair, other), True)
                if surely_not_later(many, told, pair, other):
                    self.assertLessEqual(day_of(history, *pair), day_of(history, *other))

    def test_exact_days_of_some_pairs_determine_it(self):
        for _, history, _ in cases():
            many = len(history)
            pairs = some_pairs(history)
            told = tuple((i, j, day_of(history, i, j), day_of(history, i, j)) for i, j in pairs)
            self.assertIs(determines(history, pairs), True)
            self.assertEqual(earliest(many, told), history)
            for one, other in combinations(range(many), 2):
                day = day_of(history, one, other)
                self.assertEqual(day_range(many, told, one, other), (day, day))
            for at in range(len(pairs)):
                self.assertNotEqual(missing(history, pairs[:at] + pairs[at + 1:]), [])

    def test_ways_back_to_it(self):
        for draw, history, told in cases():
            many = len(history)
            self.assertEqual(history_of(many, forks(history)), history)
            self.assertEqual(history_of(many, draw.sample(forks(history), len(forks(history)))), history)
            self.assertEqual(parse_history(format_history(history)), history)
            self.assertEqual(parse_told(format_told(told)), told)
            self.assertEqual(nearest_history(history), history)
            self.assertEqual((least_error(history), worst_pair(history)), (0, None))
            order = tuple(draw.sample(range(many), many))
            self.assertEqual(put_together(many, [(order, part(history, order))]), history)
            back = tuple(order.index(item) for item in range(many))
            self.assertEqual(part(part(history, order), back), history)
            pairs = [((i, j), part(history, (i, j))) for i, j in some_pairs(history)]
            self.assertEqual(put_together(many, pairs), history)

    def test_groups_forks_and_triples(self):
        for _, history, _ in cases():
            many = len(history)
            self.assertIsNone(bad_triple(history))
            for day, branches in forks(history):
                whole = tuple(sorted(item for branch in branches for item in branch))
                self.assertIn(whole, groups(history, day))
                self.assertNotIn(whole, groups(history, day + 1))
                self.assertTrue(all(branch in groups(history, day + 1) for branch in branches))
            for one, other in combinations(range(many), 2):
                self.assertEqual(fork_at(history, one, other)[0], day_of(history, one, other))

    def test_lesser_and_greater(self):
        draw = random.Random(112)
        for many in range(1, 11):
            one, other = [samples.drawn_history(draw, many, 6) for _ in range(2)]
            least, most = lesser(one, other), greater(one, other)
            self.assertTrue(is_below(least, one) and is_below(least, other))
            self.assertTrue(is_below(one, most) and is_below(other, most))
            self.assertIs(is_history(least) and is_history(most), True)
            self.assertEqual((lesser(one, most), greater(one, least)), (one, one))

    def test_counted_and_walked_histories_keep_bounds(self):
        for many, last in [(3, 3), (4, 2)]:
            all_of_them = list(histories(many, last))
            self.assertEqual(len(all_of_them), count_histories(many, last))
            told = ((0, 1, 1, last), (many - 1, 0, 0, 1))
            kept = [history for history in all_of_them if keeps(history, told)]
            self.assertEqual(kept, [history for history in all_of_them if History(history) in Told(many, told)])
            self.assertEqual(lesser(*kept), earliest(many, told))
            for one, other in combinations(range(many), 2):
                least, greatest = day_range(many, told, one, other)
                days = {day_of(history, one, other) for history in kept}
                self.assertEqual(days, set(range(least, (last if greatest is None else min(last, greatest)) + 1)))


class ObjectsFunctionsAndLiveBounds(unittest.TestCase):
    def test_they_agree(self):
        for draw, history, told in cases():
            many = len(history)
            cut = len(told) // 2
            made, both = History(history), Told(many, told[:cut]) + Told(many, told[cut:])
            live, strict = LiveTold(many), StrictTold.read(many, format_told(told[:cut]))
            for bound in told:
                live.tell(*bound)
            strict.tell_all(*told[cut:])
            self.assertEqual([both.bounds, live.bounds_now, strict.bounds_now], [told] * 3)
            self.assertEqual([len(both), len(live), len(strict)], [len(told), len(told), 1])
            self.assertIs(made in both, keeps(history, told))
            self.assertIs(live.possible_now, is_possible(many, told))
            self.assertIs(strict.possible_now, True)
            for one, other in combinations(range(many), 2):
                self.assertEqual(made(one, other), day_of(history, one, other))
                for asked in [live, strict]:
                    self.assertEqual(asked.range_of(one, other), day_range(many, told, one, other))
            self.assertIs(LiveTold.is_valid(many, both.bounds), True)
            other = History(samples.drawn_history(draw, many, 5))
            self.assertEqual((made & other).table, lesser(history, other.table))
            self.assertEqual((made | other).table, greater(history, other.table))
            self.assertEqual(made | History(earliest(many, told)), made)

    def test_histories_that_do_not_keep_them(self):
        for draw, history, told in cases():
            many = len(history)
            other = samples.drawn_history(draw, many, 9)
            self.assertIs(History(other) in Told(many, told), keeps(other, told))
            self.assertIs(keeps(other, told), other in samples.keeping([other], told))


class LargerValues(unittest.TestCase):
    """What the package returns may be passed back, even if it is larger than the limits of arguments."""

    def texts(self):
        """Histories of more than twenty items in texts of less than 3000 characters."""
        yield "(" + " ".join(map(str, range(500))) + ")8"
        yield format_history(samples.halves_history(256, 1))
        yield format_history(samples.comb_history(100, 0))
        branches = [" ".join(str(30 * k + at) for at in range(30)) for k in range(10)]
        yield "(" + " ".join(f"({branch}){30 - k}" for k, branch in enumerate(branches)) + ")4"

    def test_parsed_histories(self):
        begin = time.process_time()
        for text in self.texts():
            self.assertLess(len(text), 3000)
            history = parse_history(text)
            many = len(history)
            self.assertGreater(many, 20)
            self.assertIs(is_table(history) and is_history(history), True)
            self.assertIsNone(bad_triple(history))
            self.assertEqual(groups(history, 0), [tuple(range(many))])
            self.assertEqual(history_of(many, forks(history)), history)
            self.assertIn(fork_at(history, 0, many - 1), forks(history))
            self.assertIs(determines(history, some_pairs(history)), True)
            self.assertEqual(len(missing(history, [])), fewest_pairs(history))
            self.assertGreater(count_fewest(history), 0)
            self.assertEqual((least_error(history), worst_pair(history)), (0, None))
            self.assertEqual(nearest_history(history), history)
            self.assertEqual((lesser(history, history), greater(history, history)), (history, history))
            self.assertEqual(put_together(many, [(tuple(range(many)), history)]), history)
            self.assertEqual(part(history, (many - 1, 0, 25)), part(part(history, (0, 25, many - 1)), (2, 0, 1)))
            made = History(history)
            self.assertEqual((made & made, made | made, len(made)), (made, made, many))
            self.assertEqual(made(many - 1, 0), day_of(history, 0, many - 1))
            told = ((0, many - 1, made(0, many - 1), None),)
            self.assertIs(made in Told(many, told), True)
            self.assertIs(keeps(history, told), True)
            self.assertEqual(format_history(history), text)
        self.assertLess(time.process_time() - begin, 60)

    def test_sums_of_told_bounds(self):
        begin = time.process_time()
        for history, told in samples.large_possible_bounds(2, 113):
            made = Told(20, told)
            for _ in range(4):
                made = made + made
            bounds = made.bounds
            self.assertEqual(len(bounds), 960)
            self.assertEqual(Told(20, bounds), made)
            self.assertIs(History(history) in made, True)
            self.assertIs(keeps(history, bounds), True)
            self.assertEqual(earliest(20, bounds), earliest(20, told))
            self.assertIsNone(conflict(20, bounds))
            self.assertEqual(day_range(20, bounds, 3, 4), day_range(20, told, 3, 4))
            least, _ = day_range(20, told, 3, 4)
            self.assertEqual(history_on(20, bounds, 3, 4, least), history_on(20, told, 3, 4, least))
            self.assertIs(surely_earlier(20, bounds, (0, 1), (2, 3)), surely_earlier(20, told, (0, 1), (2, 3)))
            self.assertEqual(parse_told(format_told(bounds)), bounds)
            self.assertEqual(LiveTold.read(20, format_told(bounds)).bounds_now, bounds)
            live = LiveTold(20)
            self.assertEqual(live.tell_all(*bounds), 960)
            self.assertEqual(live.try_tells(*told)[-1], 1020)
            self.assertIs(live.possible_now, True)
            self.assertIs(LiveTold.is_valid(20, bounds), True)
            day = samples.day(earliest(20, told), 0, 1)
            if day:
                self.assertEqual(conflict(20, bounds + ((0, 1, 0, day - 1),))[0], 960)
        self.assertLess(time.process_time() - begin, 30)

    def test_later_days(self):
        day = LONG * LONG
        history = parse_history(f"((0 1){day + 1} 2){day}")
        self.assertEqual(history, ((), (day + 1,), (day, day)))
        told = parse_told(f"0-1:{day + 1}.. 1-2:0..{day}")
        self.assertEqual(day_range(3, told, 0, 2), (0, day))
        self.assertEqual(history_on(3, told, 0, 2, day), history)
        self.assertIs(History(history) in Told(3, told), True)


if __name__ == "__main__":
    unittest.main()
