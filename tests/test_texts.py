import random
import re
import unittest
from itertools import product

import samples
from commondays.errors import InvalidText, InvalidTold, NotAHistory
from commondays.texts import format_history, format_told, parse_history, parse_told
from samples import LONG

NUMBER = "(?:0|[1-9][0-9]*)"
SIGNS = "( )0123456789-:.,+x_"


def text_by_words(history, group=None):
    """The text of the forks of a group, written from the outermost one inwards."""
    group = list(range(len(history))) if group is None else group
    if len(group) == 1:
        return str(group[0])
    day = min(samples.day(history, i, j) for i in group for j in group if i != j)
    branches = []
    for item in group:
        branch = [k for k in group if k == item or samples.day(history, k, item) > day]
        if branch not in branches:
            branches.append(branch)
    return "(" + " ".join(text_by_words(history, branch) for branch in branches) + ")" + str(day)


def outer_parts(inner):
    """A text parted at its spaces outside of brackets."""
    parts, depth = [""], 0
    for sign in inner:
        depth += {"(": 1, ")": -1}.get(sign, 0)
        if sign == " " and depth == 0:
            parts.append("")
        else:
            parts[-1] += sign
    return parts


def read_branch(text):
    """The items of a branch, the days of its pairs and its own day, or None if it is not written so."""
    if re.fullmatch(NUMBER, text, re.ASCII):
        return [int(text)], {}, None
    match = re.fullmatch(rf"\((.*)\)({NUMBER})", text, re.ASCII)
    if not match:
        return None
    day = int(match[2])
    branches = [read_branch(part) for part in outer_parts(match[1])]
    if len(branches) < 2 or None in branches:
        return None
    if any(later is not None and later <= day for _, _, later in branches):
        return None
    if [branch[0][0] for branch in branches] != sorted(branch[0][0] for branch in branches):
        return None
    items, days = [], {}
    for more, inner, _ in branches:
        days.update(inner)
        days.update({frozenset(pair): day for pair in product(items, more)})
        items = items + more
    return sorted(items), days, day


def history_by_words(text):
    """The history that a text writes, or None."""
    read = read_branch(text)
    if read is None or read[0] != list(range(len(read[0]))):
        return None
    return tuple(tuple(read[1][frozenset((i, j))] for j in range(i)) for i in range(len(read[0])))


def told_by_words(text):
    """The bounds that a text writes, or None."""
    told = []
    for word in text.split(" ") if text else []:
        match = re.fullmatch(rf"({NUMBER})-({NUMBER}):({NUMBER})\.\.({NUMBER})?", word, re.ASCII)
        if not match:
            return None
        one, other, low = int(match[1]), int(match[2]), int(match[3])
        high = None if match[4] is None else int(match[4])
        if one == other or (high is not None and high < low):
            return None
        told.append((one, other, low, high))
    return tuple(told)


def changed(draw, text, signs):
    """A text with one to three characters exchanged, left out, put in or turned."""
    for _ in range(draw.randint(1, 3)):
        at = draw.randint(0, len(text))
        way = draw.randrange(4)
        if way == 0:
            text = text[:at] + draw.choice(signs) + text[at + 1:]
        elif way == 1:
            text = text[:at] + text[at + 1:]
        elif way == 2:
            text = text[:at] + draw.choice(signs) + text[at:]
        else:
            text = text[:at] + text[at:at + 2][::-1] + text[at + 2:]
    return text


def drawn_told(draw, count, many, last):
    told = []
    for _ in range(count):
        one, other = draw.randrange(many), draw.randrange(many - 1)
        low = draw.randint(0, last)
        told.append((one, other + (other >= one), low, draw.choice([None, low, draw.randint(low, last)])))
    return tuple(told)


class Checks(unittest.TestCase):
    def check_history_text(self, text):
        """Compare with the words of the document; returns whether the text is one of a history."""
        expected = history_by_words(text)
        if expected is None:
            self.refuse(parse_history, text)
        else:
            self.assertEqual(parse_history(text), expected, text)
            self.assertEqual(format_history(expected), text)
        return expected is not None

    def check_told_text(self, text):
        expected = told_by_words(text)
        if expected is None:
            self.refuse(parse_told, text)
        else:
            self.assertEqual(parse_told(text), expected, text)
            self.assertEqual(format_told(expected), text)
        return expected is not None

    def refuse(self, parse, text):
        try:
            found = parse(text)
        except InvalidText as error:
            self.assertIs(type(error), InvalidText)
        else:
            self.fail(f"{text!r} was read as {found!r}")


class Examples(unittest.TestCase):
    def test_section_12(self):
        self.assertEqual(format_history(((), (7,), (3, 3))), "((0 1)7 2)3")
        self.assertEqual(parse_told("0-1:5.. 0-2:0..3"), ((0, 1, 5, None), (0, 2, 0, 3)))
        self.assertEqual(parse_history("((0 1)7 2)3"), ((), (7,), (3, 3)))
        self.assertEqual(format_told(((0, 1, 5, None), (0, 2, 0, 3))), "0-1:5.. 0-2:0..3")
        self.assertEqual((format_history(((),)), parse_history("0")), ("0", ((),)))


class Histories(Checks):
    def test_written_by_hand(self):
        for history, text in [
            (((), (0,)), "(0 1)0"),
            (((), (LONG,)), f"(0 1){LONG}"),
            (((), (4,), (4, 4)), "(0 1 2)4"),
            (((), (3,), (3, 8)), "(0 (1 2)8)3"),
            (((), (3,), (8, 3)), "((0 2)8 1)3"),
            (((), (5,), (1, 1), (1, 1, 5)), "((0 1)5 (2 3)5)1"),
            (((), (3,), (1, 1), (3, 3, 1), (1, 1, 3, 1), (3, 8, 1, 3, 1), (1, 1, 9, 1, 3, 1)),
             "((0 (1 5)8 3)3 ((2 6)9 4)3)1"),
            (samples.star_history(12, 30), "(0 1 2 3 4 5 6 7 8 9 10 11)30"),
            (samples.comb_history(5, 0), "((((0 1)4 2)3 3)2 4)1"),
            (samples.comb_history(4, 9), "(((0 1)12 2)11 3)10"),
        ]:
            self.assertEqual(format_history(history), text)
            self.assertEqual(parse_history(text), history)

    def test_all_small_histories(self):
        texts = set()
        for many, last in [(1, 0), (2, 12), (3, 3), (4, 2), (4, 3)]:
            for history in samples.histories(many, last):
                text = text_by_words(history)
                self.assertEqual(format_history(history), text)
                self.assertEqual(parse_history(text), history)
                self.assertEqual(history_by_words(text), history)
                texts.add(text)
        self.assertGreater(len(texts), 100)

    def test_large_histories(self):
        draw = random.Random(71)
        drawn = [samples.drawn_history(draw, 20, last) for last in [2, 9, 40, LONG, LONG]]
        for history in samples.large_histories() + drawn:
            text = format_history(history)
            self.assertIs(type(text), str)
            self.assertEqual(text, text_by_words(history))
            self.assertEqual(parse_history(text), history)

    def test_histories_of_more_items(self):
        star = "(" + " ".join(map(str, range(700))) + ")8"
        self.assertEqual(parse_history(star), samples.star_history(700, 8))
        self.assertEqual(format_history(parse_history(star)), star)
        for history in [samples.halves_history(200, 3), samples.comb_history(40, 0), samples.star_history(300, LONG)]:
            text = text_by_words(history)
            self.assertLess(len(text), 3000)
            found = parse_history(text)
            self.assertEqual(found, history)
            self.assertEqual(format_history(found), text)

    def test_kinds(self):
        found = parse_history("((0 1)7 2)3")
        self.assertIs(type(found), tuple)
        self.assertTrue(all(type(row) is tuple for row in found))
        self.assertTrue(all(type(day) is int for row in found for day in row))

    def test_all_short_texts(self):
        found = []
        for length in range(7):
            for signs in product("( )01", repeat=length):
                text = "".join(signs)
                if self.check_history_text(text):
                    found.append(text)
        self.assertEqual(found, ["0", "(0 1)0", "(0 1)1"])

    def test_changed_texts(self):
        draw = random.Random(72)
        texts = [
            "0", "(0 1)0", "(0 1)12", "(0 1 2)4", "((0 1)7 2)3", "(0 (1 2)10)9", "((0 2)8 1)3", "((0 1)5 (2 3)5)1",
            "((0 (1 5)8 3)3 ((2 6)9 4)3)1", "((((0 1)4 2)3 3)2 4)1", "(0 1 2 3 4 5 6 7 8 9 10 11)30",
        ]
        found = [self.check_history_text(changed(draw, draw.choice(texts), SIGNS)) for _ in range(30000)]
        self.assertGreater(found.count(True), 1000)
        self.assertGreater(found.count(False), 20000)

    def test_changed_large_texts(self):
        draw = random.Random(73)
        for history in samples.large_histories():
            text = format_history(history)
            for _ in range(60):
                self.check_history_text(changed(draw, text, SIGNS))

    def test_leading_zeros(self):
        for text in ["00", "(00 1)3", "(0 01)3", "(0 1)03", "(0 1)00", "((0 1)07 2)3", "((0 1)7 02)3", "((0 1)7 2)03"]:
            self.refuse(parse_history, text)

    def test_spaces(self):
        for text in [
            " ", "", " 0", "0 ", " (0 1)3", "(0 1)3 ", "( 0 1)3", "(0 1 )3", "(0  1)3", "(0 1) 3", "(0 1)3\n",
            "(0\n1)3",
            "(0\t1)3", "(0\u00a01)3", "(0 1)3 4", "((0 1)7  2)3", "((0 1)7 2) 3", "((0 1) 7 2)3", "((0 1 )7 2)3",
            "( (0 1)7 2)3", "(0 1)3\r", "\n(0 1)3", "(0,1)3", "(0 1)3\n(0 1)3",
        ]:
            self.refuse(parse_history, text)

    def test_branches_in_another_order(self):
        for text in ["(1 0)3", "(2 (0 1)7)3", "((1 0)7 2)3", "((1 2)7 0)3", "(0 2 1)3", "((2 3)5 (0 1)5)1",
                     "(0 (2 1)8)3", "((0 3)5 (2 1)5)1"]:
            self.refuse(parse_history, text)

    def test_no_later_day_inside(self):
        for text in ["((0 1)3 2)3", "((0 1)2 2)3", "(0 (1 2)3)3", "(0 (1 2)0)3", "((0 1)0 2)0", "((0 1)9 2)10",
                     "(((0 1)5 2)4 3)4", f"((0 1){LONG} 2){LONG}", "((0 1)5 (2 3)1)1"]:
            self.refuse(parse_history, text)
        self.assertEqual(parse_history("((0 1)10 2)9"), ((), (10,), (9, 9)))
        self.assertEqual(parse_history(f"((0 1){LONG + 1} 2){LONG}"), ((), (LONG + 1,), (LONG, LONG)))

    def test_one_branch_alone_or_none(self):
        for text in ["(0)3", "((0 1)7)3", "((0)7 1)3", "(0 (1)7)3", "()3", "(() 0)3", "(0 ()7)3", "(()7 0)3", "((0))3"]:
            self.refuse(parse_history, text)

    def test_an_item_twice_left_out_or_too_large(self):
        for text in ["(0 0)3", "(0 1 1)3", "((0 1)7 1)3", "((0 1)7 (0 2)7)3", "(0 2)3", "(1 2)3", "((0 1)7 3)3", "1",
                     "7", "((0 2)7 3)3", f"(0 {LONG})3", "((0 1)7 (0 1)7)3", "(0 1 2 4)3", "((0 0)7 1)3",
                     "((0 1)7 (1 2)7)3"]:
            self.refuse(parse_history, text)

    def test_brackets(self):
        for text in ["(", ")", "()", "(0", "0)", "(0 1", "(0 1)", "0 1)3", "((0 1)7 2", "((0 1)7 2)", "(0 1)7 2)3",
                     "((0 1)7 2)3)", "((0 1)7 2))3", "((0 1)7) 2)3", "((0 1) 2)3", "(((0 1)7 2)3", "[0 1]3", "(0 1]3",
                     "(0 1)3)4", "(0 1)3(0 1)3", "(0(1 2)7)3", "((0 1)7(2 3)7)3", "3(0 1)", "(0 1)(3", "(0 1)3(",
                     "(0 1)()3", ")0 1(3", "0 1", "(0 1)3 (0 1)3", "(0 1)3 2", "(0 1)(2)3"]:
            self.refuse(parse_history, text)

    def test_other_digits_and_signs(self):
        for text in ["(0 1)\u00b2", "(0 1)\u0663", "(\u0660 1)3", "\u0660", "(0 \uff11)3", "(0 1)-3", "(0 1)+3",
                     "(-0 1)3", "(0 1)3.0", "(0 1)3_0", "(0 1)1e3", "(0 1)x", "(a b)3", "0x0", "(0 1)\u2460", "zero",
                     "(0 1)3a"]:
            self.refuse(parse_history, text)

    def test_very_long_texts(self):
        for text in ["(" * 3000, ")" * 3000, " " * 3000, "(0 " * 1000, "(0 1)" * 600, "9" * 6000, "0" * 6000,
                     "(" * 1000 + "0" + ")3" * 1000, "((0 1)7 " * 400, "(0 1)3 " * 400, "(0 " + "1" * 6000 + ")3"]:
            self.refuse(parse_history, text)

    def test_days_of_thousands_of_digits(self):
        day = 10 ** 2900
        self.assertEqual(parse_history("(0 1)1" + "0" * 2900), ((), (day,)))
        self.assertEqual(format_history(((), (day,))), "(0 1)1" + "0" * 2900)
        later = parse_history("(0 1)1" + "0" * 6000)[1][0]
        self.assertEqual(later, 10 ** 6000)

    def test_many_levels(self):
        for many in [41, 150, 300]:
            history = samples.comb_history(many, 0)
            text = "(" * (many - 1) + "0" + "".join(f" {k}){many - k}" for k in range(1, many))
            self.assertEqual(parse_history(text), history)
            self.assertEqual(format_history(history), text)


class ToldBounds(Checks):
    def test_written_by_hand(self):
        for told, text in [
            ((), ""),
            (((0, 1, 0, None),), "0-1:0.."),
            (((1, 0, 0, 0),), "1-0:0..0"),
            (((20, 7, 10, 30), (7, 20, 10, None), (0, 1, 2, 2)), "20-7:10..30 7-20:10.. 0-1:2..2"),
            (((LONG, 0, LONG, LONG),), f"{LONG}-0:{LONG}..{LONG}"),
            (((0, 1, 5, None),) * 3, "0-1:5.. 0-1:5.. 0-1:5.."),
        ]:
            self.assertEqual(format_told(told), text)
            self.assertEqual(parse_told(text), told)

    def test_drawn_bounds(self):
        draw = random.Random(74)
        for many, last in [(2, 0), (2, 3), (20, 9), (20, LONG), (LONG, LONG), (5, 12)]:
            for count in [0, 1, 2, 7, 60]:
                told = drawn_told(draw, count, many, last)
                text = format_told(told)
                self.assertIs(type(text), str)
                self.assertEqual(text.count(" "), max(0, count - 1))
                self.assertEqual(parse_told(text), told)
                self.assertEqual(told_by_words(text), told)

    def test_kinds(self):
        found = parse_told("0-1:5.. 0-2:0..3")
        self.assertIs(type(found), tuple)
        self.assertTrue(all(type(bound) is tuple for bound in found))
        self.assertEqual(parse_told(""), ())

    def test_all_short_texts(self):
        found = []
        for length in range(8):
            for signs in product("01-:.", repeat=length):
                text = "".join(signs)
                if self.check_told_text(text):
                    found.append(text)
        self.assertEqual(found, ["", "0-1:0..", "0-1:1..", "1-0:0..", "1-0:1.."])

    def test_changed_texts(self):
        draw = random.Random(75)
        texts = ["", "0-1:5..", "0-1:5..5", "10-3:12..30", "0-1:5.. 0-2:0..3", "3-4:0.. 4-3:10..11 7-8:9..9"]
        found = [self.check_told_text(changed(draw, draw.choice(texts), SIGNS)) for _ in range(30000)]
        self.assertGreater(found.count(True), 1000)
        self.assertGreater(found.count(False), 15000)

    def test_changed_large_texts(self):
        draw = random.Random(76)
        text = format_told(drawn_told(draw, 60, 20, LONG))
        for _ in range(300):
            self.check_told_text(changed(draw, text, SIGNS))

    def test_low_above_high_and_equal_items(self):
        for text in ["0-1:5..4", "0-1:1..0", "0-1:10..9", "0-0:1..2", "7-7:0..", "12-12:3..3", "0-1:5..5 0-1:5..4",
                     f"0-1:{LONG + 1}..{LONG}", f"{LONG}-{LONG}:0.."]:
            self.refuse(parse_told, text)
        self.assertEqual(parse_told("0-1:9..10"), ((0, 1, 9, 10),))

    def test_numbers(self):
        for text in ["00-1:5..", "0-01:5..", "0-1:05..", "0-1:5..05", "0-1:00..", "0-1:0..00", "+0-1:5..", "0--1:5..",
                     "0-+1:5..", "0-1:-5..", "0-1:+5..", "0-1:5..+6", "0-1:5..-6", "-0-1:5..", "0-1:5.0..6", "a-b:c..d",
                     "0-1:\u0665..", "\u0660-1:5..", "0-1:5..\u00b2", "0-1:1_0..", "0-1:5..None", "0-1:0x5..",
                     "0-1:5e1.."]:
            self.refuse(parse_told, text)

    def test_signs_left_out_or_too_many(self):
        for text in ["0", "0-1", "0-1:", "0-1:5", "0-1:5.", "0-1:5...", "0-1:5...6", "0-1:..", "0-1:..6", "-1:5..",
                     "0-:5..", ":5..", "01:5..", "0-15..", "0-1:56", "0-1-2:5..", "0-1:5:6..", "0-1:5..6..7",
                     "0-1:5....", "..", "-:..",
                     "0:1-5..", "0-1..5:6", "0-1:5..6-7", "0-1:5..:", "0-1 :5..", "0-1: 5..", "0-1:5 ..", "0-1:5.. 6",
                     "0 -1:5..", "0- 1:5..", "0-1:5. .", "(0-1:5..)", "0-1:5..,0-2:0..3", "0-1:5..;"]:
            self.refuse(parse_told, text)

    def test_spaces(self):
        for text in [" ", "  ", " 0-1:5..", "0-1:5.. ", "0-1:5..  0-2:0..3", "0-1:5..\n", "0-1:5..\t0-2:0..3",
                     "0-1:5..\n0-2:0..3", "\n", "0-1:5..\u00a00-2:0..3", "0-1:5..0-2:0..3"]:
            self.refuse(parse_told, text)

    def test_very_long_texts(self):
        for text in ["9" * 6000, "0-1:" + "9" * 6000, "-" * 3000, "." * 3000, "0-1:5.." * 400, "0-1:5..  " * 300]:
            self.refuse(parse_told, text)
        self.assertEqual(parse_told("0-1:1" + "0" * 2900 + ".."), ((0, 1, 10 ** 2900, None),))
        self.assertEqual(parse_told("1" + "0" * 6000 + "-1:3..5"), ((10 ** 6000, 1, 3, 5),))
        told = ((0, 1, 5, None),) * 370
        self.assertEqual(parse_told(format_told(told)), told)


class Errors(unittest.TestCase):
    def test_no_histories(self):
        for at, wrong in enumerate(samples.NO_HISTORIES):
            with self.subTest(at), self.assertRaises(NotAHistory):
                format_history(wrong)

    def test_no_told_bounds(self):
        for at, wrong in enumerate(samples.NO_TOLDS_OF_ANY_NUMBER):
            with self.subTest(at), self.assertRaises(InvalidTold):
                format_told(wrong)

    def test_bounds_are_taken_by_their_form_alone(self):
        self.assertEqual(format_told(((0, 3, 2, 3), (LONG, 0, 1, None))), f"0-3:2..3 {LONG}-0:1..")
        # They need not be possible.
        self.assertEqual(format_told(((0, 1, 5, None), (0, 1, 0, 4))), "0-1:5.. 0-1:0..4")

    def test_no_texts(self):
        values = [(), (0,), [], ["0"], ("0",), 0, 1, LONG, ((),), ((0, 1, 5, None),), b"0", b"", b"0-1:5..", {"0": "0"}]
        values += [value for value in samples.OTHER_KINDS if type(value) is not str]
        for at, wrong in enumerate(values):
            for parse in [parse_history, parse_told]:
                with self.subTest(parse.__name__, at=at), self.assertRaises(InvalidText):
                    parse(wrong)

    def test_texts_of_the_other_kind(self):
        for text in ["", "0-1:5..", "0-1:5.. 0-2:0..3", "abc", "((), (7,))"]:
            with self.assertRaises(InvalidText):
                parse_history(text)
        for text in ["0", "(0 1)3", "((0 1)7 2)3", "abc", "((), (7,))"]:
            with self.assertRaises(InvalidText):
                parse_told(text)


if __name__ == "__main__":
    unittest.main()
