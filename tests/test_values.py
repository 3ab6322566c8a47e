"""Values and their writings. [10]"""

import itertools
import random
import re
import unittest

from eventledger import values
from eventledger.errors import NoValue
from eventledger.values import read, shown

WRITINGS = [
    (0, "0"), (1, "1"), (9, "9"), (10, "10"), (-1, "-1"), (-10, "-10"), (1234567890, "1234567890"),
    (10 ** 39, "1" + "0" * 39), (10 ** 40 - 1, "9" * 40),
    (-(10 ** 39), "-1" + "0" * 39), (1 - 10 ** 40, "-" + "9" * 40),
    (None, "-"), (True, "+"), (False, "!"),
    ("", '""'), ("a", '"a"'), (" ", '" "'), ("   ", '"   "'), ('"', '""""'), ('""', '""""""'),
    ('a"b', '"a""b"'), ('"a', '"""a"'), ('a"', '"a"""'), ('" "', '""" """'), ("-", '"-"'),
    ("(1 2)", '"(1 2)"'), ("0", '"0"'), ("\\n", '"\\n"'), ("~", '"~"'), ("'", '"\'"'),
    ((), "()"), ((1,), "(1)"), ((1, 2), "(1 2)"), (((),), "(())"), (((), ()), "(() ())"),
    ((0, -1, "a", None, True, False, ()), '(0 -1 "a" - + ! ())'),
    ((None, None), "(- -)"), ((None, -5), "(- -5)"), ((True, 1, False, 0), "(+ 1 ! 0)"),
    (("", '"', " "), '("" """" " ")'), ((1, (2, (3, ("x",)), 4), 5), '(1 (2 (3 ("x")) 4) 5)'),
    (((10 ** 40 - 1,), 1 - 10 ** 40), f"(({'9' * 40}) -{'9' * 40})"),
]

# What [10] says, told another way: flat values are one mark each, then tuples of marks are.
MARK = "\x00"
FLAT = re.compile(r'"(?:[ !#$&-~]|"")*"|-?[1-9][0-9]{0,39}|0|-|\+|!')
TUPLE = re.compile(f"\\((?:{MARK}(?: {MARK})*)?\\)")


def writes_a_value(text):
    if MARK in text:
        return False
    text = FLAT.sub(MARK, text)
    many = 1
    while many:
        text, many = TUPLE.subn(MARK, text)
    return text == MARK


def is_a_beginning(text):
    return any(
        writes_a_value(text + more + ")" * depth)
        for more in ("", '"', "0")
        for depth in range(text.count("(") + 1)
    )


def wanted_at(text):
    return max(end for end in range(len(text) + 1) if is_a_beginning(text[:end]))


class ShownTest(unittest.TestCase):
    def test_writings(self):
        for value, writing in WRITINGS:
            self.assertEqual(shown(value), writing)

    def test_each_sign_of_a_text(self):
        for code in range(32, 127):
            sign = chr(code)
            if sign not in ('"', "%"):
                self.assertEqual(shown(sign), f'"{sign}"')

    def test_kinds_that_python_takes_for_equal(self):
        self.assertEqual([shown(1), shown(True), shown(0), shown(False)], ["1", "+", "0", "!"])

    def test_a_number_of_more_figures_is_no_error(self):
        self.assertEqual(shown(10 ** 40), "1" + "0" * 40)

    def test_deep_values(self):
        self.assertEqual(shown(nested(20, 7)), "(" * 20 + "7" + ")" * 20)
        self.assertEqual(shown(nested(5000, "a")), "(" * 5000 + '"a"' + ")" * 5000)


class ReadTest(unittest.TestCase):
    def test_writings(self):
        for value, writing in WRITINGS:
            self.assert_reads(writing, value)
            self.assert_reads(f"({writing} {writing})", (value, value))

    def test_kind_for_kind(self):
        self.assertIs(read("+"), True)
        self.assertIs(read("!"), False)
        self.assertIs(read("-"), None)
        self.assertIs(type(read("1")), int)
        self.assertIs(type(read("0")), int)
        self.assertEqual([type(thing) for thing in read('(+ 1 ! 0 - "" ())')],
                         [bool, int, bool, int, type(None), str, tuple])

    def test_what_is_shown_is_read_back(self):
        chance = random.Random(10)
        for _ in range(2000):
            value = some_value(chance, 4)
            self.assert_reads(shown(value), value)

    def test_tuples_twenty_deep(self):
        for inner in (0, -3, "", 'a"b', None, True, False, (), (1, "x")):
            value = nested(20, inner)
            self.assert_reads(shown(value), value)
        wide = 0
        for _ in range(20):
            wide = (1, wide, "a b", wide) if wide == 0 else ("(", wide, None)
        self.assert_reads(shown(wide), wide)

    def test_long_values(self):
        for value in ("x" * 4000, '"' * 4000, " " * 4000, "()" * 2000, tuple(range(3000)), ("",) * 3000):
            self.assert_reads(shown(value), value)

    def test_thousands_of_tuples_within_one_another(self):
        for depth in (999, 5000, 20000):
            self.assertEqual(depth_of(read("(" * depth + ")" * depth)), (depth, None))
            self.assertEqual(depth_of(read("(" * depth + "17" + ")" * depth)), (depth, 17))
            text = "(" * depth + '"a"' + ")" * depth
            self.assertEqual(shown(read(text)), text)

    def assert_reads(self, text, value):
        # By their repr, because True == 1 and False == 0.
        self.assertEqual(repr(read(text)), repr(value), text)


class RefusedTest(unittest.TestCase):
    def test_the_examples(self):
        for text, at in (("5x", 1), ("00", 1), ("-0", 1), ("(1", 2), ("(1 )", 3)):
            self.assert_refused(text, at)

    def test_nothing_begins(self):
        for text in ("", " ", "x", ")", "%", "\n", "\t", "'a'", " 1", "~", "\x00", "\x7f", "\u20ac", "True", "[1]"):
            self.assert_refused(text, 0)

    def test_signs_behind_a_value(self):
        for _, writing in WRITINGS:
            for sign in (" ", ")", "x", "(", "\n", "%", "+"):
                self.assert_refused(writing + sign, len(writing))
        self.assert_refused('"a""', 4)
        self.assert_refused('"a"0', 3)
        self.assert_refused("+1", 1)
        self.assert_refused("+-", 1)
        self.assert_refused("--1", 1)
        self.assert_refused("1-", 1)
        self.assert_refused("1 2", 1)
        self.assert_refused("()()", 2)

    def test_noughts_ahead(self):
        for text, at in (("01", 1), ("-01", 1), ("000", 1), ("(00)", 2), ("(-0)", 2), ("(1 01)", 4), ("(1 -05)", 4)):
            self.assert_refused(text, at)

    def test_figures_past_forty(self):
        for lead in "19":
            for tail in "09":
                for many in (41, 42, 100, 5000):
                    digits = lead + tail * (many - 1)
                    self.assert_refused(digits, 40)
                    self.assert_refused("-" + digits, 41)
                    self.assert_refused(f"(1 {digits})", 43)
                    self.assert_refused(f"(-{digits} 2)", 42)
        self.assert_refused("0" * 5000, 1)

    def test_figures_of_other_scripts(self):
        for sign in ("\u0661", "\u00b2", "\uff15", "\u2155"):
            self.assert_refused(sign, 0)
            self.assert_refused("-" + sign, 1)
            self.assert_refused("1" + sign, 1)
            self.assert_refused("(" + sign + ")", 1)

    def test_signs_that_no_text_has(self):
        for sign in ("%", "\n", "\r", "\t", "\x00", "\x1f", "\x7f", "\x80", "\xe4", "\u20ac"):
            self.assert_refused(f'"{sign}"', 1)
            self.assert_refused(f'"ab{sign}"', 3)
            self.assert_refused(f'"a""{sign}"', 4)
            self.assert_refused(f'(1 "a{sign}")', 5)

    def test_blanks_of_tuples(self):
        for text, at in (
            ("( )", 1), ("( 1)", 1), ("(1  2)", 3), ("(1 2 )", 5), ("(()())", 3), ("(1(2))", 2), ("(1,2)", 2),
            ("(1\n2)", 2), ("(1\t2)", 2), ('("a""b""c)', 10), ("((1) )", 5), ("(+!)", 2), ('(1"a")', 2),
        ):
            self.assert_refused(text, at)

    def test_each_early_end(self):
        for _, writing in WRITINGS:
            text = f"({writing} {writing})"
            for end in range(len(text)):
                self.assert_refused(text[:end], end)

    def test_thousands_of_signs(self):
        for sign in ("(", "(1 ", "(() ", '("" ', '"'):
            for many in (999, 5001, 20001):
                self.assert_refused(sign * many, len(sign) * many)
        self.assert_refused("(" * 5000 + ")" * 4999, 9999)
        self.assert_refused("(" * 5000 + ")" * 5001, 10000)
        self.assert_refused("(" * 5000 + " " + ")" * 5000, 5000)
        self.assert_refused("(" * 5000 + "1" + " )" * 5000, 5002)
        self.assert_refused(")" * 5000, 0)
        self.assert_refused("-" * 5000, 1)
        self.assert_refused("()" * 5000, 2)
        self.assert_refused('"' + "a" * 5000, 5001)

    def test_all_short_texts(self):
        for many in range(5):
            for signs in itertools.product('()" -01+x', repeat=many):
                self.assert_as_told("".join(signs))

    def test_writings_changed(self):
        for _, writing in WRITINGS:
            for at in range(len(writing)):
                for sign in '() "-+0x%\n':
                    self.assert_as_told(writing[:at] + sign + writing[at:])
                    self.assert_as_told(writing[:at] + sign + writing[at + 1:])
                self.assert_as_told(writing[:at] + writing[at + 1:])
                self.assert_as_told(writing[:at] + writing[at:][:2][::-1] + writing[at + 2:])

    def test_values_by_chance_changed(self):
        chance = random.Random(11)
        for _ in range(400):
            text = shown(some_value(chance, 3))
            for _ in range(4):
                at = chance.randrange(len(text))
                self.assert_as_told(text[:at] + chance.choice('()" -+!019xA~%') + text[at + chance.randrange(2):])

    def assert_refused(self, text, at):
        with self.assertRaises(NoValue) as caught:
            read(text)
        self.assertEqual(caught.exception.at, at, text)

    def assert_as_told(self, text):
        if writes_a_value(text):
            self.assertEqual(shown(read(text)), text)
        else:
            self.assert_refused(text, wanted_at(text))


class InterfaceTest(unittest.TestCase):
    def test_arguments_by_names(self):
        self.assertEqual(shown(value=(1, "a")), '(1 "a")')
        self.assertEqual(read(text='(1 "a")'), (1, "a"))

    def test_defined_in_their_file(self):
        for function in (shown, read):
            self.assertEqual(function.__module__, values.__name__)


def nested(depth, value):
    for _ in range(depth):
        value = (value,)
    return value


def depth_of(value):
    """How many tuples stand within one another, and what is in the last one, None of an empty one."""
    depth = 0
    while isinstance(value, tuple):
        depth += 1
        value = value[0] if value else None
    return depth, value


def some_value(chance, depth):
    sort = chance.randrange(8 if depth else 6)
    if sort == 0:
        return chance.choice((None, True, False))
    if sort == 1:
        return chance.choice((0, 1, -1))
    if sort in (2, 3):
        return chance.randrange(-(10 ** chance.randrange(41)) + 1, 10 ** chance.randrange(41))
    if sort in (4, 5):
        return "".join(chance.choice('"" ()-+!019aZ~\\') for _ in range(chance.randrange(6)))
    return tuple(some_value(chance, depth - 1) for _ in range(chance.randrange(5)))


if __name__ == "__main__":
    unittest.main()
