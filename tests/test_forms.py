"""Forms, and which values fit them. [13]"""

import re
import unittest

from eventledger import forms
from eventledger.forms import fits, is_form

SORTS = ("code", "amount", "word", "text")
SIGNS = [chr(code) for code in range(32, 127) if chr(code) != "%"]
NO_SIGNS = ["%", "\n", "\r", "\t", "\x00", "\x1f", "\x7f", "\x80", "\xe4", "\u20ac", "\U0001f600", "\ud800"]


class Odd:
    """A thing of no kind that the document names."""


class Alike:
    """A thing that says of everything that it is the same."""

    __hash__ = None

    def __eq__(self, other):
        return True


THINGS = [
    None, True, False, 0, 1, -1, 10 ** 50, 1.0, float("nan"), 1j, "", "a", "code", b"", b"code", [], [1], ["a"], (),
    (1,), ((),), ("a", "code"), {}, {"a": "code"}, set(), frozenset(["a"]), range(2), object(), Odd(), Odd, Alike(),
    len, int, iter([]), (x for x in ()), [[["deep"]]], ("a", ("code",)), lambda thing: True, NotImplemented, ...,
]


def is_form_as_told(thing):
    if type(thing) is not tuple or not 1 <= len(thing) <= 6:
        return False
    for field in thing:
        if type(field) is not tuple or len(field) != 2 or [type(part) for part in field] != [str, str]:
            return False
        if not re.fullmatch("[a-z]{1,12}", field[0]) or field[1] not in SORTS:
            return False
    return len({name for name, _ in thing}) == len(thing)


class FormTest(unittest.TestCase):
    def test_each_sort(self):
        for sort in SORTS:
            self.assertIs(is_form((("a", sort),)), True)

    def test_one_to_six_fields(self):
        for many in range(9):
            for sort in SORTS:
                form = tuple((name, sort) for name in "abcdefgh"[:many])
                self.assertIs(is_form(form), 1 <= many <= 6)

    def test_names(self):
        for name in ("a", "z", "az", "code", "text", "abcdefghijk", "abcdefghijkl", "zzzzzzzzzzzz"):
            self.assertIs(is_form(((name, "code"),)), True)
        for name in (
            "", "abcdefghijklm", "a" * 5000, "A", "aB", "a b", " a", "a ", "a1", "1", "a_b", "a-b", "a.b", "\n", "a\n",
            "\xe4", "a\xe4", "`", "{", "%", "\u0430", "\u00aa", b"a", ("a",), ["a"],
        ):
            self.assertIs(is_form(((name, "code"),)), False, name)

    def test_fields_twice(self):
        self.assertIs(is_form((("a", "code"), ("a", "code"))), False)
        self.assertIs(is_form((("a", "code"), ("a", "word"))), False)
        self.assertIs(is_form((("a", "code"), ("b", "word"), ("c", "text"), ("a", "text"))), False)
        self.assertIs(is_form((("a", "code"), ("b", "code"), ("aa", "code"))), True)

    def test_other_sorts(self):
        for sort in ("", "Code", "codes", "number", "name", "co", " code", "code ", "int", "whole"):
            self.assertIs(is_form((("a", sort),)), False)

    def test_lists_for_tuples(self):
        self.assertIs(is_form([("a", "code")]), False)
        self.assertIs(is_form((["a", "code"],)), False)
        self.assertIs(is_form((("b", "text"), ["a", "code"])), False)
        self.assertIs(is_form({"a": "code"}), False)
        self.assertIs(is_form({"a": "code"}.items()), False)

    def test_too_few_and_too_many_parts(self):
        for field in ((), ("a",), ("a", "code", "code"), ("a", "code", None), "ac", "a"):
            self.assertIs(is_form((field,)), False)
            self.assertIs(is_form((("b", "code"), field)), False)
        self.assertIs(is_form(("a", "code")), False)

    def test_anything(self):
        for thing in THINGS:
            for form in (
                thing, (thing,), [thing], ((thing, "code"),), (("a", thing),), ((thing, thing),),
                (("b", "word"), thing), (("b", "word"), ("a", thing)), (thing, ("b", "word")),
                ((thing, "code"), ("b", "word")), (("a", "code", thing),), ((("a", "code"), thing),),
            ):
                self.assertIs(is_form(form), is_form_as_told(form), form)

    def test_far_too_much(self):
        self.assertIs(is_form((("a", "code"),) * 5000), False)
        deep = ()
        for _ in range(5000):
            deep = (deep,)
        self.assertIs(is_form(deep), False)
        self.assertIs(is_form(((deep, "code"),)), False)
        self.assertIs(is_form((("a", deep),)), False)


class FitsTest(unittest.TestCase):
    def test_whole_numbers(self):
        for sort in ("code", "amount"):
            for value in (0, 1, -1, 7, 10 ** 15 - 1, 1 - 10 ** 15, 10 ** 40, -10 ** 60):
                self.assert_fits(sort, value, True)
            for value in (True, False, None, "", "1", "a", 1.0, 0.0, 1j, (), (1,), [1], b"1"):
                self.assert_fits(sort, value, False)

    def test_words(self):
        for value in ("a", "z", "ab", "abcdefg", "abcdefgh", "zzzzzzzz"):
            self.assert_fits("word", value, True)
        for value in (
            "", "abcdefghi", "a" * 5000, "A", "a1", "1", "a b", " ", "a ", "-", "a\n", "\xe4", "`", "{", "%",
            0, 1, True, None, ("a",), ["a"], b"a",
        ):
            self.assert_fits("word", value, False)

    def test_texts(self):
        for value in ("", " ", "a", "x" * 39, "x" * 40, '"' * 40, "~" * 40, " " * 40, "-", "Any Text, 12."):
            self.assert_fits("text", value, True)
        for value in ("x" * 41, "x" * 5000, 0, 1, True, False, None, ("a",), ["a"], (), [], b"", b"a"):
            self.assert_fits("text", value, False)

    def test_each_sign_of_a_text(self):
        for sign in SIGNS:
            for value in (sign, "a" + sign, sign + "a", sign * 40, "x" * 39 + sign):
                self.assert_fits("text", value, True)
        for sign in NO_SIGNS:
            for value in (sign, "a" + sign, sign + "a", "a" + sign + "b", "x" * 39 + sign):
                self.assert_fits("text", value, False)

    def test_each_sign_of_a_word(self):
        letters = "abcdefghijklmnopqrstuvwxyz"
        for sign in SIGNS + NO_SIGNS:
            for value in (sign, "a" + sign, sign + "a", "abcdefg" + sign):
                self.assert_fits("word", value, sign in letters)

    def test_several_fields(self):
        form = (("a", "code"), ("b", "amount"), ("c", "word"), ("d", "text"))
        self.assertIs(fits(form, (1, 2, "x", "")), True)
        for values in (
            (), (1,), (1, 2, "x"), (1, 2, "x", "", ""), (1, 2, "x", "", None), [1, 2, "x", ""],
            (2, "x", "", 1), (True, 2, "x", ""), (1, False, "x", ""), (1, 2, "X", ""), (1, 2, "x", "\n"),
            (1, 2, "", ""), ((1, 2, "x", ""),),
        ):
            self.assertIs(fits(form, values), False, values)

    def test_as_many_as_fields(self):
        for many in range(1, 7):
            form = tuple((name, "code") for name in "abcdef"[:many])
            for told in range(9):
                self.assertIs(fits(form, (0,) * told), told == many)

    def test_of_what_is_no_form_nothing_fits(self):
        for form in (
            (), [("a", "code")], (("a", "number"),), (("A", "code"),), (("a", "code"), ("a", "code")),
            tuple((name, "code") for name in "abcdefg"),
        ):
            for values in ((), (1,), (1, 1), (1,) * 7):
                self.assertIs(fits(form, values), False)

    def test_anything(self):
        forms_of_each = [(("a", sort),) for sort in SORTS]
        for thing in THINGS:
            for form in (thing, (thing,), [thing], (("a", thing),), ((thing, thing),)):
                for other in THINGS:
                    wanted = is_form_as_told(form) and form[0][1] in ("code", "amount") and repr(other) == "(1,)"
                    self.assertIs(fits(form, other), wanted, (form, other))
            for form in forms_of_each:
                for other in ([thing], (thing, thing), ((thing,),), {repr(thing): thing}):
                    self.assertIs(fits(form, other), False, (form, other))

    def test_anything_as_a_value(self):
        for thing in THINGS:
            self.assert_fits("code", thing, type(thing) is int)
            self.assert_fits("amount", thing, type(thing) is int)
            self.assert_fits("word", thing, type(thing) is str and thing in ("a", "code"))
            self.assert_fits("text", thing, type(thing) is str)

    def assert_fits(self, sort, value, wanted):
        self.assertIs(fits((("a", sort),), (value,)), wanted, (sort, value))
        self.assertIs(fits((("b", "code"), ("a", sort)), (5, value)), wanted, (sort, value))
        self.assertIs(fits((("a", sort), ("b", "code")), (value, 5)), wanted, (sort, value))


class InterfaceTest(unittest.TestCase):
    def test_arguments_by_names(self):
        self.assertIs(is_form(thing=(("a", "code"),)), True)
        self.assertIs(fits(form=(("a", "code"),), values=(1,)), True)

    def test_what_is_handed_in_stays(self):
        things = [["a", "code"], [1, [2]]]
        is_form(things)
        is_form((things,))
        fits(things, things)
        fits((("a", "code"),), (things,))
        self.assertEqual(things, [["a", "code"], [1, [2]]])

    def test_defined_in_their_file(self):
        for function in (is_form, fits):
            self.assertEqual(function.__module__, forms.__name__)


if __name__ == "__main__":
    unittest.main()
