import itertools
import random
import unittest

import samples
from commondays.errors import InvalidItems, InvalidNumber, InvalidParts, NoCommon, NotAHistory, OtherNumber
from commondays.tables import is_history
from commondays.together import greater, lesser, part, put_together
from samples import LONG, Hostile

HISTORY = ((), (7,), (3, 3))


def is_below(one, other):
    """Whether no day of one history is later than that of another one."""
    return all(one[i][j] <= other[i][j] for i in range(len(one)) for j in range(i))


def each_day(choose, given):
    """The table of the days that are chosen of those of some tables."""
    many = len(given[0])
    return tuple(tuple(choose(table[i][j] for table in given) for j in range(i)) for i in range(many))


def as_lows(given):
    many = len(given[0])
    return tuple((i, j, table[i][j], None) for table in given for i in range(many) for j in range(i))


def part_by_words(history, chosen):
    return tuple(
        tuple(samples.day(history, chosen[i], chosen[j]) for j in range(i)) for i in range(len(chosen))
    )


def choices(many):
    """All non-empty tuples of different items."""
    return [chosen for count in range(1, many + 1) for chosen in itertools.permutations(range(many), count)]


def has_parts(history, parts):
    return all(part_by_words(history, chosen) == given for chosen, given in parts)


def drawn_choice(draw, many, most):
    return tuple(draw.sample(range(many), draw.randint(1, most)))


class Examples(unittest.TestCase):
    def test_section_10(self):
        self.assertEqual(greater(((), (1,), (0, 0)), ((), (0,), (0, 1))), ((), (1,), (1, 1)))
        self.assertEqual(part(((), (7,), (3, 3)), (2, 0)), ((), (3,)))


class AllHistories(unittest.TestCase):
    def groups_of_histories(self):
        """All histories of few items with lists of one, two and several of them."""
        draw = random.Random(61)
        for many, last in [(1, 0), (2, 3), (3, 2), (4, 1)]:
            candidates = samples.histories(many, last)
            for one, other in itertools.product(candidates, repeat=2):
                yield candidates, [one, other]
        candidates = samples.histories(4, 2)
        for _ in range(300):
            yield candidates, [draw.choice(candidates) for _ in range(draw.choice([1, 2, 3, 3, 4, 7]))]

    def test_lesser_is_the_greatest_history_below(self):
        for candidates, given in self.groups_of_histories():
            found = lesser(*given)
            below = [history for history in candidates if all(is_below(history, one) for one in given)]
            self.assertIn(found, below)
            self.assertTrue(all(is_below(history, found) for history in below))

    def test_greater_is_the_least_history_above(self):
        for candidates, given in self.groups_of_histories():
            found = greater(*given)
            above = [history for history in candidates if all(is_below(one, history) for one in given)]
            self.assertIn(found, above)
            self.assertTrue(all(is_below(found, history) for history in above))

    def test_one_history(self):
        for many, last in [(1, 0), (2, 3), (3, 3), (4, 2)]:
            for history in samples.histories(many, last):
                self.assertEqual(lesser(history), history)
                self.assertEqual(greater(history), history)
                self.assertEqual(lesser(history, history), history)
                self.assertEqual(greater(history, history, history), history)

    def test_part(self):
        for many, last in [(1, 0), (2, 3), (3, 3), (4, 2)]:
            for history in samples.histories(many, last):
                for chosen in choices(many):
                    found = part(history, chosen)
                    self.assertEqual(found, part_by_words(history, chosen))
                    self.assertTrue(samples.is_history_by_words(found))

    def check_put_together(self, candidates, many, parts):
        kept = [history for history in candidates if has_parts(history, parts)]
        if kept:
            self.assertEqual(put_together(many, parts), samples.least_days(kept))
            return True
        with self.assertRaises(NoCommon) as caught:
            put_together(many, parts)
        self.assertIs(type(caught.exception), NoCommon)
        return False

    def test_put_together_of_two_parts(self):
        candidates = samples.histories(3, 1)
        parts = [
            (chosen, history) for chosen in choices(3) for history in samples.histories(len(chosen), 1)
        ]
        found = [self.check_put_together(candidates, 3, list(both)) for both in itertools.product(parts, repeat=2)]
        self.assertEqual(set(found), {True, False})

    def test_put_together_of_drawn_parts(self):
        draw = random.Random(62)
        small = {count: samples.histories(count, 2) for count in range(1, 5)}
        for many in [3, 4]:
            found = []
            for _ in range(1500):
                drawn = [drawn_choice(draw, many, many) for _ in range(draw.randint(1, 4))]
                parts = [(chosen, draw.choice(small[len(chosen)])) for chosen in drawn]
                found.append(self.check_put_together(small[many], many, parts))
                # Parts of one history are together in it.
                whole = draw.choice(small[many])
                parts = [(chosen, part(whole, chosen)) for chosen in drawn]
                self.assertTrue(self.check_put_together(small[many], many, parts))
            self.assertGreater(min(found.count(True), found.count(False)), 100)


class LesserAndGreater(unittest.TestCase):
    def test_twenty_items_and_twenty_histories(self):
        draw = random.Random(63)
        for count in [2, 3, 20]:
            given = [samples.drawn_history(draw, 20, 10 ** 30) for _ in range(count)]
            least, most = lesser(*given), greater(*given)
            self.assertEqual(least, each_day(min, given))
            self.assertEqual(most, samples.greatest_chains(20, as_lows(given)))
            for found in [least, most]:
                self.assertTrue(samples.is_history_by_words(found))
                self.assertIs(type(found), tuple)
                self.assertTrue(all(type(row) is tuple for row in found))
            for _ in range(5):
                turned = draw.sample(given, count)
                self.assertEqual(lesser(*turned), least)
                self.assertEqual(greater(*turned), most)

    def test_a_chain_through_every_item(self):
        draw = random.Random(64)
        for day in [1, 10 ** 30 - 1]:
            order = draw.sample(range(20), 20)
            given = [samples.earliest_of_links(20, [(one, other, day)]) for one, other in zip(order, order[1:])]
            self.assertEqual(len(given), 19)
            self.assertEqual(greater(*given), samples.star_history(20, day))
            self.assertEqual(lesser(*given), samples.star_history(20, 0))
            without = greater(*given[:-1])
            self.assertEqual(samples.day(without, order[0], order[-2]), day)
            self.assertEqual(samples.day(without, order[0], order[-1]), 0)

    def test_each_argument_counts(self):
        low = samples.star_history(4, 2)
        high = samples.star_history(4, 5)
        for at in range(20):
            given = [high] * 20
            given[at] = low
            self.assertEqual(lesser(*given), low)
            given = [low] * 20
            given[at] = high
            self.assertEqual(greater(*given), high)

    def test_one_item(self):
        self.assertEqual(lesser(((),), ((),)), ((),))
        self.assertEqual(greater(((),), ((),)), ((),))


class Part(unittest.TestCase):
    def test_twenty_items(self):
        draw = random.Random(65)
        for history in samples.large_histories():
            self.assertEqual(part(history, tuple(range(20))), history)
            self.assertEqual(part(history, (7,)), ((),))
            for _ in range(20):
                chosen = drawn_choice(draw, 20, 20)
                self.assertEqual(part(history, chosen), part_by_words(history, chosen))

    def test_the_items_get_their_numbers_in_the_order_of_the_choice(self):
        history = ((), (7,), (3, 3))
        self.assertEqual(part(history, (0, 1, 2)), ((), (7,), (3, 3)))
        self.assertEqual(part(history, (0, 2, 1)), ((), (3,), (7, 3)))
        self.assertEqual(part(history, (2, 1, 0)), ((), (3,), (3, 7)))

    def test_a_part_of_a_part(self):
        history = samples.comb_history(20, LONG - 20)
        chosen = (3, 19, 8, 0, 5)
        self.assertEqual(part(part(history, chosen), (4, 1)), part(history, (5, 19)))


class PutTogether(unittest.TestCase):
    def test_no_parts(self):
        for many in [1, 2, 20]:
            self.assertEqual(put_together(many, []), samples.star_history(many, 0))

    def test_parts_with_one_item(self):
        self.assertEqual(put_together(1, [((0,), ((),))]), ((),))
        self.assertEqual(put_together(3, [((2,), ((),)), ((0,), ((),))]), samples.star_history(3, 0))

    def test_the_same_part_twice(self):
        given = ((2, 0, 1), ((), (4,), (4, LONG)))
        self.assertEqual(put_together(3, [given]), put_together(3, [given, given]))
        self.assertEqual(put_together(3, [given]), ((), (LONG,), (4, 4)))
        with self.assertRaises(NoCommon):
            put_together(3, [given, ((2, 0, 1), ((), (4,), (4, LONG - 1)))])

    def test_the_whole_history(self):
        for history in samples.large_histories():
            self.assertEqual(put_together(20, [(tuple(range(20)), history)]), history)
            turned = tuple(range(19, -1, -1))
            self.assertEqual(put_together(20, [(turned, history)]), part_by_words(history, turned))
            with self.assertRaises(NoCommon):
                put_together(20, [(tuple(range(20)), history), ((4, 7), ((), (history[7][4] + 1,)))])

    def test_parts_of_one_history(self):
        draw = random.Random(66)
        for at in range(8):
            history = samples.drawn_history(draw, 20, [9, 10 ** 30][at % 2])
            chosen = [drawn_choice(draw, 20, 12) for _ in range(draw.randint(1, 6))]
            parts = [(one, part_by_words(history, one)) for one in chosen]
            found = put_together(20, parts)
            self.assertTrue(has_parts(found, parts))
            self.assertTrue(is_below(found, history))
            lows = tuple(
                (one[i], one[j], days[i][j], None) for one, days in parts for i in range(len(one)) for j in range(i)
            )
            self.assertEqual(found, samples.greatest_chains(20, lows))
            self.assertEqual(put_together(20, parts[::-1]), found)

    def test_a_chain_through_all_items_makes_a_day_later(self):
        for day in [1, 10 ** 30]:
            steps = [((k, k + 1), ((), (day,))) for k in range(19)]
            self.assertEqual(put_together(20, steps), samples.star_history(20, day))
            self.assertEqual(put_together(20, steps + [((19, 0), ((), (day,)))]), samples.star_history(20, day))
            for wrong in [day - 1, 0]:
                with self.assertRaises(NoCommon):
                    put_together(20, steps + [((19, 0), ((), (wrong,)))])
            later = put_together(20, steps[1:] + [((19, 0), ((), (day - 1,)))])
            self.assertEqual(later, ((),) + tuple((day - 1,) + (day,) * k for k in range(19)))

    def test_parts_of_two_histories(self):
        draw = random.Random(67)
        one, other = [samples.drawn_history(draw, 20, 10 ** 30) for _ in range(2)]
        self.assertNotEqual(samples.day(one, 3, 4), samples.day(other, 3, 4))
        first, second = tuple(range(12)), tuple(range(11, 20))
        parts = [(first, part_by_words(one, first)), (second, part_by_words(other, second))]
        # They have one item in common, so nothing is in the way.
        self.assertTrue(has_parts(put_together(20, parts), parts))
        with self.assertRaises(NoCommon):
            put_together(20, parts + [((3, 4), part_by_words(other, (3, 4)))])

    def test_two_hundred_parts(self):
        history = samples.halves_history(20, LONG // 10)
        whole = (tuple(range(20)), history)
        self.assertEqual(put_together(20, [whole] * 200), history)


class Errors(unittest.TestCase):
    def test_no_history_anywhere(self):
        other_number = ((), (1,))
        for at, wrong in enumerate(samples.NO_HISTORIES):
            with self.subTest(at):
                for given in [(wrong,), (wrong, HISTORY), (HISTORY, wrong), (HISTORY, other_number, wrong),
                              (other_number, wrong, HISTORY), (HISTORY, HISTORY, wrong, other_number),
                              (wrong, other_number, wrong)]:
                    for function in [lesser, greater]:
                        with self.assertRaises(NotAHistory):
                            function(*given)

    def test_another_number_of_items(self):
        for function in [lesser, greater]:
            for wrong in [((),), ((), (7,)), samples.star_history(4, 3), samples.star_history(20, 3)]:
                for given in [(HISTORY, wrong), (wrong, HISTORY), (HISTORY, HISTORY, wrong),
                              (HISTORY, wrong, HISTORY)]:
                    with self.assertRaises(OtherNumber):
                        function(*given)

    def test_part_checks_the_history_first(self):
        for at, wrong in enumerate(samples.NO_HISTORIES):
            with self.subTest(at):
                for chosen in [(0,), (), [0], None, (0, 0), Hostile()]:
                    with self.assertRaises(NotAHistory):
                        part(wrong, chosen)

    def no_choices(self):
        """Values that are no choice of three items."""
        values = [(), [], [0], [0, 1], {0: 1}, 0, 1, LONG, "0", "012", *samples.OTHER_KINDS]
        values += [(0, 0), (0, 1, 0), (2, 1, 2), (0, 1, 2, 0), (3,), (-1,), (0, 3), (0, -1), (LONG,), (-LONG, 0)]
        for wrong in samples.NO_ITEMS:
            values += [(wrong,), (0, wrong), (wrong, 0), (2, wrong, 1), (wrong, wrong)]
        return values

    def test_no_choice(self):
        for at, wrong in enumerate(self.no_choices()):
            with self.subTest(at), self.assertRaises(InvalidItems):
                part(HISTORY, wrong)

    def test_number_is_checked_first(self):
        for at, wrong in enumerate(samples.NO_NUMBERS):
            with self.subTest(at):
                for parts in [[], [((0,), ((),))], None, (), [None], Hostile(), [((0, 1), ((), (1,)))] * 2]:
                    with self.assertRaises(InvalidNumber):
                        put_together(wrong, parts)

    def no_parts(self):
        """Values that are no part of a history with three items."""
        one_item = ((),)
        values = [(wrong, one_item) for wrong in self.no_choices()]
        values += [((0, 1), wrong) for wrong in samples.NO_HISTORIES]
        values += [((0, 1, 2), wrong) for wrong in samples.BAD_TABLES]
        values += [((0,), ((), (1,))), ((0, 1), one_item), ((0, 1), HISTORY), ((0, 1, 2), ((), (1,)))]
        values += [(), ((0,),), ((0,), one_item, 0), [(0,), one_item], (one_item, (0,)), {(0,): one_item}, HISTORY]
        return values + [0, 1, LONG, *samples.OTHER_KINDS]

    def test_no_parts(self):
        good = ((0, 2), ((), (4,)))
        for at, wrong in enumerate(self.no_parts()):
            with self.subTest(at):
                for parts in [[wrong], [good, wrong], [wrong, good]]:
                    with self.assertRaises(InvalidParts):
                        put_together(3, parts)

    def test_another_kind_than_a_list(self):
        good = ((0, 2), ((), (4,)))
        for wrong in [(), (good,), good, {(0, 2): ((), (4,))}, 0, LONG, *samples.OTHER_KINDS]:
            with self.assertRaises(InvalidParts):
                put_together(3, wrong)

    def test_items_of_a_larger_number(self):
        for many in range(1, 5):
            with self.assertRaises(InvalidParts):
                put_together(many, [((many,), ((),))])
            self.assertEqual(put_together(many + 1, [((many,), ((),))]), samples.star_history(many + 1, 0))

    def test_parts_are_checked_before_they_are_put_together(self):
        broken = [((0, 1), ((), (1,))), ((1, 0), ((), (2,)))]
        with self.assertRaises(NoCommon):
            put_together(3, broken)
        for wrong in [((0, 3), ((), (1,))), None, ((0, 0), ((), (1,))), ((0, 1, 2), ((), (5,), (5, 2)))]:
            for parts in [broken + [wrong], [wrong] + broken]:
                with self.assertRaises(InvalidParts):
                    put_together(3, parts)

    def test_a_list_that_holds_itself(self):
        parts = []
        parts.append(parts)
        for value in [parts, [((0,), parts)], [(parts, ((),))]]:
            with self.assertRaises(InvalidParts):
                put_together(1, value)

    def test_several_wrong_arguments(self):
        tables = [(wrong, NotAHistory) for wrong in (3, ((), (5,), (5, 2)), [(), (5,)], None)]
        chosen = [(wrong, InvalidItems) for wrong in ((), (3,), (0, 0), [0], (True,), None)]
        samples.check_errors(self, part, [(HISTORY, tables), ((2, 0), chosen)])
        numbers = [(wrong, InvalidNumber) for wrong in (0, -1, True, None, 2.0)]
        parts = [([((0, 3), ((), (1,)))], InvalidParts), (None, InvalidParts)]
        parts += [([((0, 1), ((), (1,))), ((0, 1), ((), (2,)))], NoCommon)]
        samples.check_errors(self, put_together, [(3, numbers), ([((2, 0), ((), (1,)))], parts)])

    def test_results_are_histories(self):
        draw = random.Random(68)
        for _ in range(20):
            one, other = [samples.drawn_history(draw, 7, 5) for _ in range(2)]
            for found in [lesser(one, other), greater(one, other), part(one, (3, 0, 5))]:
                self.assertIs(is_history(found), True)


if __name__ == "__main__":
    unittest.main()
