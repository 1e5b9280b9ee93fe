import inspect
import random
import unittest

import samples
from commondays.errors import Contradiction, InvalidBound, InvalidItem, InvalidNumber, InvalidText, InvalidTold
from commondays.errors import NothingToUndo, SameItem
from commondays.live import LiveTold
from commondays.ranges import day_range
from commondays.texts import format_told
from live_model import Model, check_call, check_drawn_calls, check_state
from samples import LONG, Hostile

BOUNDS = ((0, 1, 5, None), (0, 2, 0, 3))
BROKEN = ((0, 1, 5, None), (1, 2, 7, None), (0, 2, 0, 4))


def with_bounds(many, bounds):
    live = LiveTold(many)
    live.tell_all(*bounds)
    return live


class Examples(unittest.TestCase):
    def test_section_14(self):
        live = LiveTold(3)
        self.assertEqual(live.tell(0, 1, 5), 1)
        self.assertEqual(live.tell(0, 2, high=3), 2)
        self.assertEqual(live.range_of(1, 2), (0, 3))
        self.assertEqual(live.told_words(), ["items 3", "bounds 2"])


class Calls(unittest.TestCase):
    def test_a_new_object(self):
        for many in [1, 2, 20]:
            check_state(self, LiveTold(many), Model(LiveTold, many))
        self.assertEqual(LiveTold(items=3).told_words(), ["items 3", "bounds 0"])

    def test_drawn_calls(self):
        seen = {}
        for seed, many, last in [(91, 3, 4), (92, 5, LONG), (93, 2, 1), (94, 20, 30)]:
            seen.update(check_drawn_calls(self, [LiveTold], seed, many, last, 30))
        outcomes = {(name, came) for _, name, came in seen}
        self.assertEqual(outcomes, {
            ("tell", "value"), ("tell", InvalidBound), ("tell_all", "value"), ("tell_all", InvalidBound),
            ("try_tells", "value"), ("try_tells", InvalidBound), ("undo", "value"), ("undo", NothingToUndo),
        })

    def test_tell_with_its_defaults_and_by_name(self):
        live = LiveTold(3)
        self.assertEqual(live.tell(0, 1), 1)
        self.assertEqual(live.tell(1, 2, 4), 2)
        self.assertEqual(live.tell(1, 2, 4, 9), 3)
        self.assertEqual(live.tell(1, 2, high=9), 4)
        self.assertEqual(live.tell(one=0, other=2, low=1, high=None), 5)
        self.assertEqual(live.tell(high=7, low=7, other=0, one=2), 6)
        self.assertEqual(live.tell(0, other=1, low=3), 7)
        self.assertEqual(live.bounds_now, (
            (0, 1, 0, None), (1, 2, 4, None), (1, 2, 4, 9), (1, 2, 0, 9), (0, 2, 1, None), (2, 0, 7, 7),
            (0, 1, 3, None),
        ))
        self.assertEqual(len(live), 7)
        self.assertEqual(str(inspect.signature(LiveTold.tell)), "(self, one, other, low=0, high=None)")

    def test_tell_all(self):
        live = LiveTold(3)
        self.assertEqual(live.tell_all(), 0)
        self.assertEqual(live.tell_all(BOUNDS[0]), 1)
        self.assertEqual(live.tell_all(*BOUNDS, *BOUNDS), 5)
        self.assertEqual(live.tell_all(), 5)
        self.assertEqual(len(live), 4)
        self.assertEqual(live.bounds_now, BOUNDS[:1] + BOUNDS + BOUNDS)

    def test_undo_behind_each_call(self):
        live = LiveTold(3)
        states = []
        for call in [lambda: live.tell(0, 1, 5), lambda: live.tell_all(), lambda: live.tell_all(*BOUNDS),
                     lambda: live.tell(2, 1), lambda: live.tell_all(BOUNDS[1]), lambda: live.tell_all()]:
            states.append((live.bounds_now, len(live), live.told_words()))
            call()
        for state in states[::-1]:
            self.assertIsNone(live.undo())
            self.assertEqual((live.bounds_now, len(live), live.told_words()), state)
        self.check_nothing_to_undo(live)
        self.assertEqual(live.tell(0, 1), 1)
        self.assertIsNone(live.undo())
        self.check_nothing_to_undo(live)

    def check_nothing_to_undo(self, live):
        before = live.bounds_now
        for _ in range(2):
            with self.assertRaises(NothingToUndo):
                live.undo()
            self.assertEqual((live.bounds_now, len(live)), (before, 0))

    def test_nothing_to_undo(self):
        self.check_nothing_to_undo(LiveTold(3))
        live = LiveTold(3)
        live.try_tells(*BOUNDS)
        self.check_nothing_to_undo(live)
        with self.assertRaises(InvalidBound):
            live.tell(0, 0)
        self.check_nothing_to_undo(live)

    def test_try_tells(self):
        live = with_bounds(3, BOUNDS)
        self.assertEqual(live.try_tells(), [])
        self.assertEqual(live.try_tells(BOUNDS[0]), [3])
        self.assertEqual(live.try_tells(*BROKEN), [3, 4, 5])
        with self.assertRaises(InvalidBound):
            live.try_tells(BOUNDS[0], (0, 0, 1, 2), BOUNDS[1])
        self.assertEqual((live.bounds_now, len(live)), (BOUNDS, 1))

    def test_try_tells_is_like_one_tell_after_another(self):
        draw = random.Random(95)
        for _ in range(20):
            told = next(samples.mixed_bounds(4, 3, 12, 1, draw.random()))
            live, other = LiveTold(4), LiveTold(4)
            cut = len(told) // 2
            for bound in told[:cut]:
                live.tell(*bound)
                other.tell(*bound)
            self.assertEqual(live.try_tells(*told[cut:]), [other.tell(*bound) for bound in told[cut:]])
            self.assertEqual(live.bounds_now, told[:cut])

    def test_contradictions_are_taken(self):
        live = with_bounds(3, BROKEN)
        self.assertIs(live.possible_now, False)
        self.assertEqual(live.bounds_now, BROKEN)
        with self.assertRaises(Contradiction) as caught:
            live.range_of(0, 1)
        self.assertEqual(caught.exception.index, 2)
        live.undo()
        self.assertIs(live.possible_now, True)
        self.assertEqual(live.range_of(0, 1), (0, None))

    def test_range_of(self):
        for history, told in samples.large_possible_bounds(3, 96):
            live = with_bounds(20, told)
            for one, other in [(0, 1), (19, 3), (7, 6), (2, 18)]:
                self.assertEqual(live.range_of(one, other), day_range(20, told, one, other))
                self.assertEqual(live.range_of(other=other, one=one), live.range_of(one, other))

    def test_sixty_calls(self):
        live = LiveTold(20)
        model = Model(LiveTold, 20)
        for count in range(60):
            check_call(self, live, model, "tell", count % 19, 19, LONG - count, LONG)
        check_state(self, live, model)
        for _ in range(60):
            check_call(self, live, model, "undo")
        check_state(self, live, model)

    def test_more_than_the_limits(self):
        live = LiveTold(40)
        for count in range(150):
            self.assertEqual(live.tell(count % 39, 39, count), count + 1)
        self.assertEqual(live.range_of(38, 37), (115, None))
        self.assertEqual(len(live), 150)

    def test_two_objects_do_not_share_anything(self):
        one, other = LiveTold(3), LiveTold(4)
        one.tell(0, 1, 5)
        other.tell_all()
        self.assertEqual((one.bounds_now, other.bounds_now), (((0, 1, 5, None),), ()))
        self.assertEqual((len(one), len(other)), (1, 1))
        other.tell(3, 0)
        one.undo()
        self.assertEqual((one.bounds_now, other.bounds_now), ((), ((3, 0, 0, None),)))
        self.assertEqual((len(one), len(other)), (0, 2))

    def test_returned_lists_are_new(self):
        live = with_bounds(3, BOUNDS)
        for call in [live.told_words, lambda: live.try_tells(*BOUNDS), live.try_tells]:
            found, again = call(), call()
            expected = list(found)
            self.assertIsNot(found, again)
            found.append("more")
            found.reverse()
            self.assertEqual(again, expected)
            self.assertEqual(call(), expected)
        self.assertEqual(live.bounds_now, BOUNDS)

    def test_properties_cannot_be_assigned(self):
        live = with_bounds(3, BOUNDS)
        for name in ["bounds_now", "possible_now"]:
            with self.assertRaises(AttributeError):
                setattr(live, name, ())
        self.assertEqual((live.bounds_now, live.possible_now), (BOUNDS, True))

    def test_first_day(self):
        self.assertEqual(LiveTold.FIRST_DAY, 0)
        self.assertEqual(LiveTold(3).FIRST_DAY, 0)
        self.assertIs(type(LiveTold.FIRST_DAY), int)


class Read(unittest.TestCase):
    def test_read(self):
        live = LiveTold.read(3, "0-1:5.. 0-2:0..3")
        self.assertIs(type(live), LiveTold)
        self.assertEqual(live.bounds_now, BOUNDS)
        self.assertEqual(len(live), 0)
        self.assertEqual(live.told_words(), ["items 3", "bounds 2"])
        self.assertEqual(live.range_of(1, 2), (0, 3))
        self.assertEqual(LiveTold.read(text="", items=1).bounds_now, ())
        self.assertEqual(LiveTold.read(2, text="0-1:0..").bounds_now, ((0, 1, 0, None),))

    def test_no_call_can_be_taken_back(self):
        live = LiveTold.read(3, "0-1:5.. 0-2:0..3")
        with self.assertRaises(NothingToUndo):
            live.undo()
        self.assertEqual(live.tell(1, 2), 3)
        live.undo()
        self.assertEqual(live.bounds_now, BOUNDS)
        with self.assertRaises(NothingToUndo):
            live.undo()
        self.assertEqual(live.bounds_now, BOUNDS)

    def test_bounds_that_are_not_possible(self):
        live = LiveTold.read(3, format_told(BROKEN))
        self.assertEqual((live.bounds_now, live.possible_now), (BROKEN, False))

    def test_off_an_object(self):
        live = with_bounds(3, BOUNDS)
        made = live.read(4, "0-3:1..1")
        self.assertEqual((made.bounds_now, live.bounds_now), (((0, 3, 1, 1),), BOUNDS))

    def test_a_class_below(self):
        class Below(LiveTold):
            pass

        self.assertIs(type(Below.read(3, "0-1:5..")), Below)

    def test_large_bounds(self):
        for _, told in samples.large_possible_bounds(4, 97):
            self.assertEqual(LiveTold.read(20, format_told(told)).bounds_now, told)

    def test_errors(self):
        numbers = [(wrong, InvalidNumber) for wrong in (0, -1, True, None, 2.0, "3")]
        texts = [(wrong, InvalidText) for wrong in ("0-1:5", "0-1:5.. ", "0-0:1..2", "0-1:5..4", (), None, 5)]
        tolds = [(wrong, InvalidTold) for wrong in ("0-3:5..", "3-0:5..5", "0-1:5.. 7-8:1..2", f"0-{LONG}:1..2")]
        samples.check_errors(self, LiveTold.read, [(3, numbers), ("0-1:5.. 0-2:0..3", texts + tolds)])
        # A text is read before its bounds are looked at.
        with self.assertRaises(InvalidText):
            LiveTold.read(3, "0-3:5.. 0-1:5")
        for wrong in samples.OTHER_KINDS:
            if type(wrong) is not str:
                with self.assertRaises(InvalidText):
                    LiveTold.read(3, wrong)
        for wrong in samples.NO_NUMBERS:
            for text in ["", "0-1:5..", "0-1", None, Hostile()]:
                with self.assertRaises(InvalidNumber):
                    LiveTold.read(wrong, text)


class IsValid(unittest.TestCase):
    def test_valid(self):
        for items, value in [(1, ()), (3, BOUNDS), (3, BROKEN), (LONG, ((0, LONG - 1, 2, 3),)), (20, BOUNDS * 60),
                             (LONG, ())]:
            self.assertIs(LiveTold.is_valid(items, value), True)
            self.assertIs(LiveTold.is_valid(value=value, items=items), True)
            self.assertIs(LiveTold(2).is_valid(items, value), True)

    def test_no_number(self):
        for wrong in samples.NO_NUMBERS:
            for value in [(), BOUNDS, None, Hostile()]:
                self.assertIs(LiveTold.is_valid(wrong, value), False)

    def test_no_bounds(self):
        for at, wrong in enumerate(samples.NO_TOLDS):
            with self.subTest(at):
                self.assertIs(LiveTold.is_valid(3, wrong), False)
        self.assertIs(LiveTold.is_valid(2, BOUNDS), False)
        self.assertIs(LiveTold.is_valid(1, BOUNDS[:1]), False)


class Errors(unittest.TestCase):
    def test_no_number(self):
        for at, wrong in enumerate(samples.NO_NUMBERS):
            with self.subTest(at), self.assertRaises(InvalidNumber):
                LiveTold(wrong)

    def refuse(self, live, call, *given):
        before = (live.bounds_now, len(live), live.told_words())
        with self.assertRaises(InvalidBound) as caught:
            call(*given)
        self.assertIs(type(caught.exception), InvalidBound)
        self.assertEqual((live.bounds_now, len(live), live.told_words()), before)

    def test_no_bound(self):
        live = with_bounds(3, BOUNDS)
        for at, wrong in enumerate(samples.NO_BOUNDS):
            with self.subTest(at):
                for given in [(wrong,), (BOUNDS[0], wrong), (wrong, BOUNDS[0]), (BOUNDS[0], wrong, *BROKEN)]:
                    self.refuse(live, live.tell_all, *given)
                    self.refuse(live, live.try_tells, *given)

    def test_arguments_of_tell_together(self):
        live = with_bounds(3, BOUNDS)
        for at, wrong in enumerate(samples.NO_BOUNDS):
            if type(wrong) is tuple and len(wrong) == 4:
                with self.subTest(at):
                    self.refuse(live, live.tell, *wrong)
        for given in [(0, 0), (0, 3), (3, 0), (-1, 0), (0, True), ("0", 1), (None, 1), (0, None), (0, 1, -1),
                      (0, 1, None), (0, 1, True), (0, 1, 5, 4), (0, 1, 0, False), (0, 1, 0, -1), (0, 0, -1, -2),
                      (Hostile(), 1), (0, 1, 0, Hostile()), ([0], 1), (0, [1]), ((0, 1), 2), (0, 1, [0]),
                      (0, 1, 0, [1])]:
            self.refuse(live, live.tell, *given)
        with self.assertRaises(InvalidBound):
            live.tell(0, 1, high=-1)

    def test_range_of(self):
        possible, broken = with_bounds(3, BOUNDS), with_bounds(3, BROKEN)
        for wrong in samples.NO_ITEMS:
            for one, other in [(wrong, 0), (0, wrong), (wrong, wrong)]:
                with self.assertRaises(InvalidItem):
                    possible.range_of(one, other)
                with self.assertRaises(Contradiction) as caught:
                    broken.range_of(one, other)
                self.assertEqual(caught.exception.index, 2)
        for item in range(3):
            with self.assertRaises(SameItem):
                possible.range_of(item, item)
            with self.assertRaises(Contradiction):
                broken.range_of(item, item)
        with self.assertRaises(InvalidItem):
            possible.range_of(3, 3)

    def test_one_item(self):
        live = LiveTold(1)
        self.refuse(live, live.tell, 0, 0)
        self.refuse(live, live.tell, 0, 1)
        self.assertEqual((live.tell_all(), live.possible_now, len(live)), (0, True, 1))


if __name__ == "__main__":
    unittest.main()
