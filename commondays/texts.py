"""Histories and told bounds as texts."""

from commondays.checks import has_bound_form
from commondays.errors import InvalidForks, InvalidText, InvalidTold
from commondays.forks import forks, history_of, whole_group

# What must follow in the text of a history: a branch, what stands behind one, or the day of a fork.
BRANCH = "branch"
BEHIND = "behind"
DAY = "day"


def format_history(history):
    """The text of a history."""
    ordered = forks(history)
    # Each group stands at its first item, and from the last day back the groups are put together.
    words = [str(item) for item in range(len(history))]
    for day, branches in reversed(ordered):
        inner = " ".join([words[branch[0]] for branch in branches])
        words[branches[0][0]] = f"({inner}){day}"
    return words[0]


def format_told(told):
    """The text of told bounds."""
    if not isinstance(told, tuple) or not all([has_bound_form(bound) for bound in told]):
        raise InvalidTold()
    return " ".join([_bound_text(bound) for bound in told])


def _bound_text(bound):
    """The text of one bound."""
    one, other, low, high = bound
    last = "" if high is None else str(high)
    return f"{one}-{other}:{low}..{last}"


def parse_history(text):
    """The history that a text writes."""
    group, given = _read_forks(_words_of(text))
    if list(group) != list(range(len(group))):
        raise InvalidText()
    try:
        return history_of(len(group), given)
    except InvalidForks:
        raise InvalidText() from None


def _words_of(text):
    """The brackets and the spaces of a text, and what stands between them."""
    if not isinstance(text, str):
        raise InvalidText()
    words = []
    begin = 0
    for at, sign in enumerate(text):
        if sign in "( )":
            words.extend([text[begin:at], sign])
            begin = at + 1
    words.append(text[begin:])
    return [word for word in words if word != ""]


def _read_forks(words):
    """All items and all forks that the words write; these need not be the items and the forks of a history."""
    given = []
    # The branches in each bracket that is not closed yet; below them is what the whole text writes.
    frames = [[]]
    state = BRANCH
    for word in words:
        if state == BRANCH and word == "(":
            frames.append([])
        elif state == BRANCH:
            frames[-1].append((_number_of(word),))
            state = BEHIND
        elif state == DAY:
            branches = frames.pop()
            given.append((_number_of(word), tuple(branches)))
            frames[-1].append(whole_group(branches))
            state = BEHIND
        elif word == " " and len(frames) > 1:
            state = BRANCH
        elif word == ")" and len(frames) > 1:
            state = DAY
        else:
            raise InvalidText()
    if state != BEHIND or len(frames) > 1:
        raise InvalidText()
    return frames[0][0], given


def parse_told(text):
    """The told bounds that a text writes."""
    if not isinstance(text, str):
        raise InvalidText()
    if text == "":
        return ()
    return tuple([_bound_of(word) for word in text.split(" ")])


def _bound_of(word):
    """The bound that a word writes."""
    pair, _, days = word.partition(":")
    one, _, other = pair.partition("-")
    low, dots, high = days.partition("..")
    # Without the other signs a number would be empty, but high may be.
    if dots == "":
        raise InvalidText()
    last = None if high == "" else _number_of(high)
    bound = (_number_of(one), _number_of(other), _number_of(low), last)
    if not has_bound_form(bound):
        raise InvalidText()
    return bound


def _number_of(word):
    """The number that a word writes."""
    if not word.isascii() or not word.isdigit() or (word.startswith("0") and word != "0"):
        raise InvalidText()
    value = 0
    # A word of thousands of digits is too much for int.
    for sign in word:
        value = value * 10 + int(sign)
    return value
