"""What live bounds must do, call by call, as the document says it; the tests compare each object with it."""

import random

import samples
from commondays.errors import Contradiction, DaysError, InvalidBound, NotExact, NothingToUndo
from commondays.kinds import ExactTold, StrictExactTold, StrictTold
from commondays.live import LiveTold
from commondays.ranges import day_range

KINDS = [LiveTold, ExactTold, StrictTold, StrictExactTold]


class Refused(Exception):
    """What the model says of a call that raises an error."""

    def __init__(self, kind, index=None):
        super().__init__(kind, index)
        self.kind = kind
        self.index = index


def is_bound_by_words(value, many):
    """For values of which the tests know that they are tuples or none."""
    if type(value) is not tuple or len(value) != 4:
        return False
    if not all(type(number) is int for number in value[:3]) or type(value[3]) not in (int, type(None)):
        return False
    one, other, low, high = value
    return 0 <= one < many and 0 <= other < many and one != other and low >= 0 and (high is None or high >= low)


class Model:
    def __init__(self, kind, many):
        self.kind = kind
        self.many = many
        self.calls = []  # the bounds of each call that can be taken back
        self.begun = ()  # the bounds before all calls

    def told(self):
        return self.begun + tuple(bound for call in self.calls for bound in call)

    def check(self, told, added):
        for bound in added:
            if not is_bound_by_words(bound, self.many):
                raise Refused(InvalidBound)
        if self.kind in (ExactTold, StrictExactTold):
            for at, (_, _, low, high) in enumerate(added):
                if low != high:
                    raise Refused(NotExact, len(told) + at)
        if self.kind in (StrictTold, StrictExactTold):
            index = samples.broken_index(self.many, told + added)
            if index is not None:
                raise Refused(Contradiction, index)

    def tell(self, one, other, low=0, high=None):
        return self.tell_all((one, other, low, high))

    def tell_all(self, *bounds):
        self.check(self.told(), bounds)
        self.calls.append(bounds)
        return len(self.told())

    def undo(self):
        if not self.calls:
            raise Refused(NothingToUndo)
        self.calls.pop()

    def try_tells(self, *bounds):
        told = self.told()
        for bound in bounds:
            self.check(told, (bound,))
            told += (bound,)
        return [len(self.told()) + count for count in range(1, len(bounds) + 1)]

    def words(self):
        words = [f"items {self.many}", f"bounds {len(self.told())}"]
        if self.kind in (ExactTold, StrictExactTold):
            words.append("exact")
        if self.kind in (StrictTold, StrictExactTold):
            words.append("strict")
        return words


def outcome(call, *given, **named):
    """What a call returns, or its error with the index."""
    try:
        return ("value", call(*given, **named))
    except Refused as error:
        return ("error", error.kind, error.index)
    except DaysError as error:
        return ("error", type(error), getattr(error, "index", None))


def check_state(test, live, model):
    """Compare all that can be asked of an object."""
    told = model.told()
    test.assertIs(type(live), model.kind)
    test.assertEqual(live.bounds_now, told)
    test.assertIs(type(live.bounds_now), tuple)
    test.assertEqual(len(live), len(model.calls))
    test.assertEqual(live.told_words(), model.words())
    index = samples.broken_index(model.many, told)
    test.assertIs(live.possible_now, index is None)
    for one in range(min(3, model.many)):
        for other in range(model.many):
            if one != other:
                expected = ("error", Contradiction, index)
                if index is None:
                    expected = ("value", day_range(model.many, told, one, other))
                test.assertEqual(outcome(live.range_of, one, other), expected)


def check_call(test, live, model, name, *given, **named):
    """Make one call at both and compare; returns what came of it."""
    expected = outcome(getattr(model, name), *given, **named)
    test.assertEqual(outcome(getattr(live, name), *given, **named), expected, (name, given, named))
    return expected


class Drawn:
    """Calls for live bounds that are drawn around the days of a history; some of them are refused."""

    def __init__(self, seed, many, last):
        self.draw = random.Random(seed)
        self.many = many
        self.history = samples.drawn_history(self.draw, many, last)

    def bound(self):
        draw = self.draw
        one, other = draw.sample(range(self.many), 2)
        day = samples.day(self.history, one, other)
        chance = draw.random()
        if chance < 0.1:
            return draw.choice([(one, one, 0, None), (one, self.many, 0, 0), (one, other, day + 1, day), (one, other),
                                None, (one, other, True, None), [one, other, day, day], (one, -1, day, day)])
        if chance < 0.6:
            return (one, other, day, day)
        if chance < 0.75:
            return (one, other, day + 1, day + 1)
        return (one, other, draw.randint(0, day), draw.choice([None, day, day + 3]))

    def call(self):
        """The name of a call with its arguments."""
        draw = self.draw
        name = draw.choice(["tell", "tell", "tell_all", "tell_all", "try_tells", "undo"])
        if name == "undo":
            return name, ()
        if name == "tell":
            bound = self.bound()
            while not isinstance(bound, (tuple, list)) or not 2 <= len(bound) <= 4:
                bound = self.bound()
            return name, tuple(bound)
        return name, tuple(self.bound() for _ in range(draw.choice([0, 1, 1, 2, 3, 5])))


def check_drawn_calls(test, kinds, seed, many, last, count):
    """Two objects of each of some kinds get drawn calls in turns; returns how often each outcome came."""
    drawn = Drawn(seed, many, last)
    pairs = [(kind(many), Model(kind, many)) for kind in kinds for _ in range(2)]
    seen = {}
    for _ in range(count):
        for live, model in pairs:
            name, given = drawn.call()
            came = check_call(test, live, model, name, *given)
            word = (model.kind, name, came[0] if came[0] == "value" else came[1])
            seen[word] = seen.get(word, 0) + 1
        for live, model in pairs:
            check_state(test, live, model)
    return seen
