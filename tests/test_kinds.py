import unittest

import samples
from commondays.errors import Contradiction, DaysError, InvalidBound, InvalidNumber, InvalidText, InvalidTold, NotExact
from commondays.errors import NothingToUndo
from commondays.kinds import ExactTold, StrictExactTold, StrictTold
from commondays.live import LiveTold
from commondays.texts import format_told
from live_model import KINDS, Model, check_call, check_drawn_calls, check_state, outcome
from samples import LONG, Hostile

EXACT = ((0, 1, 5, 5), (1, 2, 5, 5))
OPEN = ((0, 1, 5, None), (0, 2, 0, 3))
BROKEN = ((0, 1, 5, None), (1, 2, 7, None), (0, 2, 0, 4))
BROKEN_EXACT = ((0, 1, 5, 5), (1, 2, 7, 7), (0, 2, 4, 4))


class Examples(unittest.TestCase):
    def test_section_14(self):
        live = StrictExactTold(3)
        self.assertEqual(live.tell_all((0, 1, 5, 5), (1, 2, 5, 5)), 2)
        self.assertEqual(live.range_of(0, 2), (5, None))


class Classes(unittest.TestCase):
    def test_below_each_other(self):
        for kind in KINDS:
            self.assertTrue(issubclass(kind, LiveTold))
        self.assertTrue(issubclass(StrictExactTold, StrictTold))
        self.assertTrue(issubclass(StrictExactTold, ExactTold))
        self.assertFalse(issubclass(StrictTold, ExactTold))
        self.assertFalse(issubclass(ExactTold, StrictTold))
        self.assertIsInstance(StrictExactTold(3), LiveTold)

    def test_words(self):
        for kind, words in [(LiveTold, []), (ExactTold, ["exact"]), (StrictTold, ["strict"]),
                            (StrictExactTold, ["exact", "strict"])]:
            live = kind(3)
            self.assertEqual(live.told_words(), ["items 3", "bounds 0", *words])
            live.tell_all(*EXACT)
            self.assertEqual(live.told_words(), ["items 3", "bounds 2", *words])
            live.told_words().append("more")
            self.assertEqual(live.told_words(), ["items 3", "bounds 2", *words])
            self.assertEqual(kind.FIRST_DAY, 0)


class SameCalls(unittest.TestCase):
    def test_drawn_calls(self):
        seen = {}
        for seed, many, last in [(101, 3, 4), (102, 4, 2), (103, 5, LONG), (104, 2, 1), (105, 8, 30), (106, 20, 9)]:
            seen.update(check_drawn_calls(self, KINDS, seed, many, last, 30))
        for kind in KINDS:
            errors = {InvalidBound}
            errors |= {NotExact} if issubclass(kind, ExactTold) else set()
            errors |= {Contradiction} if issubclass(kind, StrictTold) else set()
            for name in ["tell", "tell_all", "try_tells"]:
                came = {word for other, called, word in seen if (other, called) == (kind, name)}
                self.assertEqual(came, {"value", *errors})

    def check_calls(self, calls):
        """Make the same calls at an object of each kind."""
        for kind in KINDS:
            live, model = kind(3), Model(kind, 3)
            for name, *given in calls:
                check_call(self, live, model, name, *given)
                check_state(self, live, model)

    def test_written_out(self):
        self.check_calls([
            ("tell", 0, 1, 5), ("tell", 0, 1, 5, 5), ("tell", 1, 2, 7, 7), ("tell", 0, 2, 4, 4), ("tell", 0, 2, 5, 5),
            ("tell_all", (0, 2, 4, 4), (0, 2, 0, None)), ("undo",), ("tell", 0, 2, 4, 4), ("tell_all",),
            ("try_tells", *BROKEN_EXACT), ("try_tells", *BROKEN), ("undo",), ("undo",), ("undo",), ("undo",),
            ("tell_all", *BROKEN), ("tell_all", *BROKEN_EXACT), ("undo",), ("undo",), ("undo",),
        ])
        self.check_calls([("undo",), ("try_tells",), ("tell_all",), ("try_tells", *EXACT, None), ("undo",), ("undo",)])

    def test_a_refused_call_changes_nothing(self):
        for kind in KINDS:
            live, model = kind(3), Model(kind, 3)
            check_call(self, live, model, "tell_all", *EXACT)
            for given in [(None,), OPEN, ((0, 2, 4, 4),), (*EXACT, (0, 2, 4, 4)), BROKEN, BROKEN_EXACT,
                          ((0, 2, 4, 9),)]:
                for name in ["try_tells", "tell_all"]:
                    came = check_call(self, live, model, name, *given)
                    check_state(self, live, model)
                    if came[0] == "value" and name == "tell_all":
                        check_call(self, live, model, "undo")


class Refusals(unittest.TestCase):
    def refuse(self, expected, index, call, *given):
        with self.assertRaises(DaysError) as caught:
            call(*given)
        self.assertIs(type(caught.exception), expected)
        if index is not None:
            self.assertEqual(caught.exception.index, index)

    def test_contradiction_has_the_least_index_of_all_bounds(self):
        for kind, bounds in [(StrictTold, BROKEN), (StrictExactTold, BROKEN_EXACT)]:
            for given, index in [(bounds, 2), (bounds[::-1], 0), ((bounds[1], bounds[2], bounds[0]), 1)]:
                live = kind(3)
                self.refuse(Contradiction, index, live.tell_all, *given)
                self.refuse(Contradiction, index, live.try_tells, *given)
                self.refuse(Contradiction, index, kind.read, 3, format_told(given))
                live.tell_all(*given[:2])
                self.refuse(Contradiction, index, live.tell, *given[2])
                self.assertEqual((live.bounds_now, len(live)), (given[:2], 1))

    def test_an_earlier_bound_decides(self):
        live = StrictTold(3)
        live.tell_all((0, 1, 0, 9), (0, 2, 0, 4), (0, 1, 5, None))
        self.refuse(Contradiction, 1, live.tell, 1, 2, 7)
        self.refuse(Contradiction, 0, live.tell_all, (1, 2, 7, None), (0, 1, 10, None))
        # One after the other the first of them fails first.
        self.refuse(Contradiction, 1, live.try_tells, (1, 2, 7, None), (0, 1, 10, None))
        self.refuse(Contradiction, 3, live.tell, 0, 1, 0, 4)
        self.assertEqual(live.tell(1, 2, 4), 4)

    def test_not_exact_has_the_number_among_all_bounds(self):
        for kind in [ExactTold, StrictExactTold]:
            live = kind(3)
            for wrong in [(0, 1, 5, None), (0, 1, 5, 6), (0, 1, 0, None), (0, 1, 0, LONG), (1, 0, LONG - 1, LONG)]:
                self.refuse(NotExact, 0, live.tell, *wrong)
                self.refuse(NotExact, 0, live.tell_all, wrong)
                self.refuse(NotExact, 1, live.tell_all, EXACT[0], wrong, wrong)
                self.refuse(NotExact, 2, live.try_tells, *EXACT, wrong)
                self.refuse(NotExact, 2, kind.read, 3, format_told((*EXACT, wrong)))
                self.refuse(NotExact, 0, kind.read, 3, format_told((wrong, *EXACT)))
            live.tell(*EXACT[0])
            live.tell_all(EXACT[1], EXACT[1])
            self.refuse(NotExact, 3, live.tell, 0, 1)
            self.refuse(NotExact, 4, live.tell_all, EXACT[0], (0, 1, 0, None))
            self.refuse(NotExact, 5, live.try_tells, *EXACT, (0, 1, 0, None), (0, 1, 0, None))
            self.assertEqual(len(live.bounds_now), 3)

    def test_all_bounds_are_checked_for_one_error_after_the_other(self):
        live = StrictExactTold(3)
        live.tell(0, 1, 5, 5)
        broken, loose, wrong = (0, 1, 4, 4), (1, 2, 0, None), (0, 0, 1, 1)
        self.refuse(InvalidBound, None, live.tell_all, broken, loose, wrong)
        self.refuse(NotExact, 2, live.tell_all, broken, loose)
        self.refuse(NotExact, 1, live.tell_all, loose, broken)
        self.refuse(Contradiction, 0, live.tell_all, EXACT[1], (0, 1, 6, 6))
        self.refuse(Contradiction, 1, live.tell_all, broken, EXACT[1])
        exact = ExactTold(3)
        self.refuse(InvalidBound, None, exact.tell_all, loose, wrong)
        strict = StrictTold(3)
        strict.tell(0, 1, 5, 5)
        self.refuse(InvalidBound, None, strict.tell_all, broken, wrong)

    def test_try_tells_works_bound_by_bound(self):
        live = StrictExactTold(3)
        live.tell(0, 1, 5, 5)
        broken, loose, wrong = (0, 1, 4, 4), (1, 2, 0, None), (0, 0, 1, 1)
        self.refuse(Contradiction, 1, live.try_tells, broken, loose, wrong)
        self.refuse(NotExact, 1, live.try_tells, loose, broken, wrong)
        self.refuse(NotExact, 2, live.try_tells, EXACT[1], loose, broken)
        self.refuse(InvalidBound, None, live.try_tells, wrong, loose, broken)
        self.refuse(InvalidBound, None, live.try_tells, EXACT[1], wrong, broken)
        self.refuse(Contradiction, 2, live.try_tells, EXACT[1], broken, wrong)
        self.assertEqual(live.try_tells(EXACT[1], EXACT[1]), [2, 3])

    def test_order_of_the_errors_of_tell(self):
        live = StrictExactTold(3)
        live.tell(0, 1, 5, 5)
        self.refuse(InvalidBound, None, live.tell, 0, 1, 4, 3)
        self.refuse(InvalidBound, None, live.tell, 0, 3, 4, None)
        self.refuse(NotExact, 1, live.tell, 0, 1, 6, 7)
        self.refuse(NotExact, 1, live.tell, 0, 1, 6)
        self.refuse(Contradiction, 0, live.tell, 0, 1, 6, 6)
        self.refuse(Contradiction, 1, live.tell, 0, 1, 4, 4)

    def test_order_of_the_errors_of_read(self):
        for kind, text, expected, index in [
            (StrictTold, "0-1:5.. 0-1:0..4 0-1", InvalidText, None),
            (StrictTold, "0-1:5.. 0-1:0..4 0-3:5..", InvalidTold, None),
            (StrictTold, "0-1:5.. 0-1:0..4 0-2:0..", Contradiction, 1),
            (ExactTold, "0-1:5.. 0-1", InvalidText, None),
            (ExactTold, "0-1:5.. 0-3:5..", InvalidTold, None),
            (ExactTold, "0-1:5..5 0-1:4..4 0-1:5.. 0-1:6..", NotExact, 2),
            (StrictExactTold, "0-1:5..5 0-1:4..4 0-1:5..4", InvalidText, None),
            (StrictExactTold, "0-1:5..5 0-1:4..4 0-4:5..", InvalidTold, None),
            (StrictExactTold, "0-1:5..5 0-1:4..4 0-1:5..", NotExact, 2),
            (StrictExactTold, "0-1:5..5 0-1:4..4 0-1:5..5", Contradiction, 1),
        ]:
            self.refuse(expected, index, kind.read, 3, text)
            for wrong in [0, -1, True, None, Hostile(), "3"]:
                self.refuse(InvalidNumber, None, kind.read, wrong, text)

    def test_behind_undo_a_bound_can_be_told_that_was_refused(self):
        for kind in [StrictTold, StrictExactTold]:
            live = kind(3)
            live.tell(0, 1, 5, 5)
            self.refuse(Contradiction, 1, live.tell, 0, 1, 4, 4)
            live.undo()
            self.assertEqual(live.tell(0, 1, 4, 4), 1)
            self.refuse(Contradiction, 0, live.tell, 0, 1, 5, 5)
            self.assertEqual(live.bounds_now, ((0, 1, 4, 4),))
            live.undo()
            self.refuse(NothingToUndo, None, live.undo)

    def test_no_number(self):
        for kind in KINDS:
            for wrong in samples.NO_NUMBERS:
                self.refuse(InvalidNumber, None, kind, wrong)

    def test_no_bound(self):
        for kind in KINDS:
            live = kind(3)
            live.tell_all(*EXACT)
            for at, wrong in enumerate(samples.NO_BOUNDS):
                with self.subTest(kind.__name__, at=at):
                    self.refuse(InvalidBound, None, live.tell_all, EXACT[0], wrong)
                    self.refuse(InvalidBound, None, live.try_tells, EXACT[0], wrong)
                    self.assertEqual(live.bounds_now, EXACT)


class Read(unittest.TestCase):
    def test_an_object_of_the_class(self):
        for kind in KINDS:
            live = kind.read(3, format_told(EXACT))
            model = Model(kind, 3)
            model.begun = EXACT
            check_state(self, live, model)
            for name, *given in [("undo",), ("tell", 0, 2, 4, 4), ("tell", 0, 2, 6, 6), ("undo",), ("undo",), ("undo",),
                                 ("tell", 0, 2), ("try_tells", (0, 2, 5, 5), (0, 2, 4, 4)), ("undo",), ("undo",)]:
                check_call(self, live, model, name, *given)
                check_state(self, live, model)
            self.assertEqual(kind.read(1, "").bounds_now, ())
            self.assertIs(type(kind(3).read(3, "")), kind)

    def test_is_valid(self):
        for kind in KINDS:
            self.assertIs(kind.is_valid(3, BROKEN), True)
            self.assertIs(kind.is_valid(3, [*BROKEN]), False)
            self.assertIs(kind.is_valid(True, ()), False)

    def test_large_bounds(self):
        for history, told in samples.large_possible_bounds(4, 107):
            exact = tuple((i, j, samples.day(history, i, j), samples.day(history, i, j)) for i, j, _, _ in told)
            for kind in KINDS:
                given = exact if issubclass(kind, ExactTold) else told
                live = kind.read(20, format_told(given))
                self.assertEqual(live.bounds_now, given)
                self.assertIs(live.possible_now, True)
                one, other, _, _ = given[30]
                day = live.range_of(one, other)[0]
                came = outcome(live.tell, one, other, day + LONG, day + LONG)
                expected = samples.broken_index(20, (*given, (one, other, day + LONG, day + LONG)))
                if issubclass(kind, StrictTold) and expected is not None:
                    self.assertEqual(came, ("error", Contradiction, expected))
                else:
                    self.assertEqual(came, ("value", 61))


if __name__ == "__main__":
    unittest.main()
