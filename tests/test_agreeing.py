"""Agreement: whether two lists of steps make the same of all values. [18]"""

import copy
import inspect
import random
import unittest

from eventledger import agreeing as module
from eventledger.agreeing import agreement
from eventledger.errors import BadStep, WrongEnd
from eventledger.forms import fits
from eventledger.squares import normal, tests_of
from eventledger.steps import done, form_behind
from making import CODES, WORDS, run, some_form, some_steps, some_steps_to_a_form, some_values
from test_squares import by_chance, choices_as_told, squares_of, together, values_to_try

FORM = (("n", "code"), ("k", "code"), ("m", "amount"), ("w", "word"), ("t", "text"))
BARE = [("drop", "k"), ("drop", "m"), ("drop", "t")]


def case(field, value, yes=(), no=()):
    return ("case", field, value, yes, no)


def table(field, sort, rows, other=None):
    return ("table", field, sort, rows, other)


def join(new, *parts):
    return ("join", new, tuple(("field", part[1:]) if part.startswith(":") else ("say", part) for part in parts))


class AgreementTest(unittest.TestCase):
    def assert_agree(self, one, other, form=FORM):
        tests = together(form, tests_of(form, one), tests_of(form, other))
        self.assertEqual(agreement(form, one, other), ("agree", normal(form, one, tests=tests)))
        self.assertEqual(agreement(form, other, one), ("agree", normal(form, other, tests=tests)))

    def assert_differ(self, one, other, form=FORM):
        told = []
        for first, second in ((one, other), (other, one)):
            word, values = agreement(form, first, second)
            self.assertEqual(word, "differ")
            self.assert_apart(form, first, second, values)
            told.append(values)
        return told

    def assert_apart(self, form, one, other, values):
        self.assertIs(type(values), tuple)
        self.assertTrue(fits(form, values), values)
        self.assertNotEqual(held_behind(form, one, values), held_behind(form, other, values))
        self.assertNotEqual(run(form, one, values)[0], run(form, other, values)[0])


class AgreeTest(AgreementTest):
    def test_the_same_steps(self):
        for steps in ([], [case("n", 1, [("scale", "k", 2, 0)])], [("drop", "t"), join("j", ":w", "a")]):
            self.assert_agree(steps, list(steps))
            self.assert_agree(steps, tuple(steps))

    def test_told_are_the_rows_of_the_first_one(self):
        one, other = [("copy", "n", "z"), case("n", 1)], [case("w", "a"), ("copy", "n", "z")]
        one, other = BARE + one, BARE + other
        rows = agreement(FORM, one, other)[1]
        self.assertIs(type(rows), list)
        self.assertEqual([choice for choice, _ in rows], [
            (("n", n), ("w", w)) for n in (1, None) for w in ("a", None)])
        self.assertEqual(rows, normal(FORM, one, tests=(("n", (1,)), ("w", ("a",)))))

    def test_the_order_of_the_fields_is_the_first_ones(self):
        one = BARE + [("copy", "n", "y"), ("copy", "w", "z")]
        other = BARE + [("copy", "w", "z"), ("copy", "n", "y"), ("rename", "n", "q"), ("copy", "q", "n"), ("drop", "q")]
        self.assert_agree(one, other)
        number = ("number", 0, (("n", 1),))
        self.assertEqual(agreement(FORM, one, other)[1], [((), (number, ("same", "w"), number, ("same", "w")))])
        self.assertEqual(agreement(FORM, other, one)[1], [((), (("same", "w"), ("same", "w"), number, number))])

    def test_scales_in_two(self):
        self.assert_agree([("scale", "n", 6, 5)], [("scale", "n", 2, 1), ("scale", "n", 3, 2)])
        self.assert_agree([("scale", "n", 1, 0)], [])
        self.assert_agree([("scale", "m", 0, 5)], [("drop", "m"), ("put", "m", "amount", 5)])
        self.assert_agree([("scale", "n", -1, 0), case("n", -3, [("scale", "k", 0, 0)])],
                          [case("n", 3, [("scale", "k", 0, 0)]), ("scale", "n", -1, 0)])

    def test_tables_as_cases(self):
        rows = ((1, "x"), (2, "y"))
        cases = [case("n", 1, [("put", "z", "word", "x")],
                      [case("n", 2, [("put", "z", "word", "y")], [("put", "z", "word", "o")])]),
                 ("drop", "n"), ("rename", "z", "n")]
        self.assert_agree([table("n", "word", rows, ("o",))], cases)
        self.assert_agree([table("n", "word", tuple(reversed(rows)), ("o",))], cases)
        self.assert_agree([table("w", "word", (("a", "b"), ("b", "a")))],
                          [case("w", "a", [table("w", "word", (), ("b",))], [table("w", "word", (("b", "a"),))])])
        self.assert_agree([table("w", "word", (("a", "a"),))], [])
        self.assert_agree([table("n", "code", ((3, 3), (4, 4)))], [])

    def test_cases_within_cases(self):
        double, triple, none = [("scale", "k", 2, 0)], [("scale", "k", 3, 0)], []
        self.assert_agree([case("n", 1, [case("w", "a", double, triple)], none)],
                          [case("w", "a", [case("n", 1, double)], [case("n", 1, triple)])])
        self.assert_agree([case("n", 1, [case("n", 2, double, triple)], none)], [case("n", 1, triple)])
        self.assert_agree([case("n", 1, none, [case("n", 1, double, triple)])], [case("n", 1, none, triple)])
        self.assert_agree([case("n", 1, double, [case("n", 2, triple)])],
                          [case("n", 2, triple, [case("n", 1, double)])])
        self.assert_agree([case("n", 1)], [])
        self.assert_agree([case("n", 1, double, double)], double)

    def test_copies_put_and_dropped(self):
        self.assert_agree([("copy", "n", "z"), ("scale", "z", 5, 5), ("drop", "z")], [])
        self.assert_agree([("put", "z", "text", "no"), ("drop", "z")], [])
        self.assert_agree([("copy", "n", "z"), case("z", 4, [("scale", "k", 0, 1)]), ("drop", "z")],
                          [case("n", 4, [("scale", "k", 0, 1)])])

    def test_renamings_there_and_back(self):
        self.assert_agree([("rename", "n", "z"), ("rename", "z", "n")], [])
        self.assert_agree([("rename", "n", "z"), ("rename", "k", "n"), ("rename", "z", "k")],
                          [("copy", "n", "z"), ("drop", "n"), ("rename", "k", "n"), ("rename", "z", "k")])

    def test_fields_put_last(self):
        self.assert_agree([("copy", "n", "z"), ("drop", "n"), ("rename", "z", "n")], [])

    def test_sums_in_another_order(self):
        drops = [("drop", "t")]
        self.assert_agree(drops + [("sum", "s", ("n", "m", "k"))], drops + [("sum", "s", ("k", "n", "m"))])
        self.assert_agree(drops + [("sum", "s", ("n", "n"))], drops + [
            ("sum", "s", ("n",)), ("scale", "s", 2, 0)])
        self.assert_agree(drops + [("sum", "s", ("n", "k", "m"))], drops + [
            ("sum", "z", ("m", "k")), ("sum", "s", ("z", "n")), ("drop", "z")])
        minus = [("copy", "n", "z"), ("scale", "z", -1, 7), ("sum", "s", ("n", "z", "k")), ("drop", "z")]
        self.assert_agree(drops + minus, drops + [("sum", "s", ("k",)), ("scale", "s", 1, 7)])

    def test_parts_of_a_join_joined_apart(self):
        drops = [("drop", "n")]
        one = drops + [join("j", "a", ":t", "b", "c", ":w")]
        self.assert_agree(one, drops + [join("z", "a", ":t", "bc"), join("j", ":z", ":w"), ("drop", "z")])
        self.assert_agree(one, drops + [join("z", "bc"), join("y", "a", ":t"), join("j", ":y", ":z", ":w"),
                                        ("drop", "y"), ("drop", "z")])
        self.assert_agree(drops + [("put", "e", "text", ""), join("j", ":e", ":t", ":e"), ("drop", "e")],
                          drops + [("copy", "t", "j")])
        self.assert_agree(drops + [("put", "j", "text", "ab-9")], drops + [join("j", "ab", "-9")])

    def test_what_no_value_answers(self):
        double, none = [("scale", "k", 2, 0)], []
        self.assert_agree([("scale", "n", 2, 0), case("n", 3, double, none)], [("scale", "n", 2, 0)])

    def test_a_constant_where_a_field_is_fixed(self):
        self.assert_agree([case("n", 4, [("drop", "n"), ("put", "n", "code", 4)], [("copy", "n", "z"), ("drop", "n"),
                          ("rename", "z", "n")])], [])
        self.assert_agree(BARE + [case("w", "ab", [("put", "j", "text", "xab")], [join("j", "x", ":w")])],
                          BARE + [join("j", "x", ":w")])

    def test_other_names_on_the_way(self):
        for form, steps, fields in by_chance(31, 120):
            self.assert_agree(steps, written_otherwise(form, steps), form)


class DifferTest(AgreementTest):
    def test_at_one_value(self):
        for value in (-10 ** 14, -1, 0, 1, 2, 3, 10 ** 14):
            told = self.assert_differ([case("n", value, [("scale", "k", 1, 1)])], [])
            self.assertEqual([values[0] for values in told], [value] * 2)
        for word in ("a", "b", "ab", "aa", "aaaaaaaa", "zzzzzzzz"):
            told = self.assert_differ([table("w", "word", ((word, "other"),))], [])
            self.assertEqual([values[3] for values in told], [word] * 2)

    def test_at_one_value_in_one_square(self):
        steps = [case("n", 5, [case("w", "b", [case("k", -7, [("scale", "m", 1, 1)])])])]
        for values in self.assert_differ(steps, []):
            self.assertEqual((values[0], values[1], values[3]), (5, -7, "b"))
        more = [table("n", "code", ((1, 2), (2, 1), (6, 7))), table("w", "word", (("a", "c"), ("c", "a")))]
        for values in self.assert_differ(steps + more, more):
            self.assertEqual((values[0], values[1], values[3]), (5, -7, "b"))

    def test_at_all_but_the_tested_values(self):
        numbers = tuple((number, number) for number in (0, 1, 2, 3))
        more = tuple((number, number) for number in (-1, 4, 5, 6))
        one = [("copy", "n", "z"), table("z", "code", numbers, (9,)), ("drop", "t")]
        for values in self.assert_differ(one, [("copy", "n", "z"), ("drop", "t")]):
            self.assertNotIn(values[0], (0, 1, 2, 3, 9))
        nested = one[:1] + [case("z", 9, [], [table("z", "code", more, (8,))])]
        told = self.assert_differ(nested + [("drop", "t")], [("copy", "n", "z"), ("drop", "t")])
        for values in told:
            self.assertNotIn(values[0], (-1, 4, 5, 6, 8, 9))
        words = (("aa", "aa"), ("ba", "ba"), ("ca", "ca"), ("da", "da"))
        for values in self.assert_differ([table("w", "word", words, ("ea",))], []):
            self.assertNotIn(values[3], ("aa", "ba", "ca", "da", "ea"))

    def test_where_a_free_one_is_none_of_many_tested(self):
        form = (("w", "word"), ("v", "word"))
        for letter in "abcz":
            words = [letter + second for second in "abcdefghijklmnopqrstuvwxyz"] + [letter]
            steps = []
            for at in range(0, len(words), 4):
                steps.append(table("w", "word", tuple((word, word) for word in words[at:at + 4])))
            one, other = [*steps, join("j", ":w", ":v")], [join("j", ":v", ":w")]
            for values in self.assert_differ(one, other, form):
                self.assertTrue(fits(form, values))
            for values in self.assert_differ([*steps, ("copy", "w", "x")], [("copy", "v", "x")], form):
                self.assertTrue(fits(form, values))
            self.assert_differ([*steps, join("j", letter, ":w")], [join("j", ":w", letter)], form)

    def test_where_all_words_of_a_letter_are_tested(self):
        form = (("w", "word"), ("t", "text"))
        for letters in ("a", "ab", "b", "abcd"):
            words = [first + second for first in letters for second in "abcdefghijklmnopqrstuvwxyz"]
            steps = [("copy", "w", "x")]
            for at in range(0, len(words), 4):
                steps.append(table("w", "word", tuple((word, "zz") for word in words[at:at + 4])))
            # Only a word that is none of these comes to the steps that part.
            for values in self.assert_differ(
                [*steps, case("w", "zz", [join("j", ":t")], [join("j", ":x", ":t")])],
                [*steps, case("w", "zz", [join("j", ":t")], [join("j", ":t", ":x")])], form,
            ):
                self.assertNotIn(values[0], words)
                self.assertNotEqual(values[0], "zz")

    def test_numbers(self):
        self.assert_differ([("scale", "n", 2, 0)], [])
        self.assert_differ([("scale", "n", 1, 1)], [])
        self.assert_differ([("scale", "n", 2, 0)], [("scale", "n", 3, -1)])
        self.assert_differ([("scale", "n", 2, 1)], [("scale", "n", 3, 1)])
        self.assert_differ([("scale", "n", 0, 0)], [])
        self.assert_differ([("scale", "n", 0, 1)], [("scale", "n", -1, 1)])
        self.assert_differ([("scale", "m", 0, 3)], [("scale", "m", 0, 4)])
        self.assert_differ([("scale", "n", 10 ** 15 - 1, 0)], [("scale", "n", 10 ** 15 - 2, 0)])
        drops = [("drop", "t")]
        for fields in (("n", "k"), ("n",), ("m",), ("n", "m"), ("n", "n", "m"), ("k", "k", "k"), ("n", "k", "m", "m")):
            self.assert_differ(drops + [("sum", "s", fields)], drops + [("sum", "s", ("n", "k", "m"))])
        one = [("copy", "n", "z"), ("scale", "z", -1, 0), ("sum", "s", ("z", "k")), ("drop", "z")]
        self.assert_differ(drops + one, drops + [("put", "s", "amount", 0)])
        self.assert_differ(drops + one, drops + [("put", "s", "amount", 1)])

    def test_numbers_that_are_alike_at_the_first_values(self):
        for at in range(-2, 5):
            for times in (-1, 2, 5):
                self.assert_differ([("scale", "n", times, at - times * at)], [])
                self.assert_differ([("scale", "m", times, at - times * at)], [])
        steps = [case("n", 0, [("scale", "n", 1, 0)]), case("n", 1), case("n", 2), ("scale", "n", 2, -3)]
        self.assert_differ(steps, [])

    def test_words(self):
        for word in ("a", "aa", "ba", "ab", "zz"):
            self.assert_differ([table("w", "word", (), (word,))], [])
            self.assert_differ([table("w", "word", (), (word,))], [table("w", "word", (), ("c",))])
        form = (("w", "word"), ("v", "word"))
        self.assert_differ([("copy", "w", "x")], [("copy", "v", "x")], form)
        swap = [("rename", "w", "x"), ("rename", "v", "w"), ("rename", "x", "v")]
        self.assert_differ(swap, [], form)

    def test_texts_by_one_length(self):
        drops = [("drop", "n")]
        for one, other in (
            (("a",), ("aa",)), ((":t",), (":t", ":t")), ((":w", ":t"), (":w",)), ((":t", "a"), (":t",)),
            (("a", ":t"), (":t",)), ((":w",), (":w", "a")), ((":w", "a"), (":w", "a", ":w")), (("a",), (":t",)),
        ):
            self.assert_differ(drops + [join("j", *one)], drops + [join("j", *other)])
        self.assert_differ(drops + [("put", "j", "text", "")], drops + [("copy", "t", "j")])
        self.assert_differ(drops + [("put", "j", "text", "")], drops + [join("j", ":w")])
        self.assert_differ(drops + [("put", "j", "text", "")], drops + [("put", "j", "text", " ")])

    def test_texts_by_one_order(self):
        form = (("w", "word"), ("v", "word"), ("t", "text"), ("u", "text"))
        for one, other in (
            ((":t", ":u"), (":u", ":t")), ((":w", ":v"), (":v", ":w")), ((":w", ":t"), (":t", ":w")),
            (("a", ":t"), (":t", "a")), ((":t", "a", ":t"), (":t", ":t", "a")), (("a", ":w"), (":w", "a")),
            ((":t", ":u", ":t", ":u"), (":t", ":u", ":u", ":t")), (("a", ":t", "b", ":w"), ("a", ":w", "b", ":t")),
            ((":w", "a", ":v"), (":w", ":v", "a")), ((":t", "abcdefghijkl"), ("abcdefghijkl", ":t")),
        ):
            self.assert_differ([join("j", *one)], [join("j", *other)], form)

    def test_texts_by_one_sign(self):
        drops = [("drop", "n")]
        for one, other in (
            ((":t", "ab", ":w"), (":t", "ac", ":w")), (("a",), ("b",)), ((":t",), (":w",)), (("a", ":w"), (":w", ":w")),
            ((":w", "aa"), (":w", ":w")), ((":t", "b"), (":t", ":w")), ((":t", "c"), (":t", ":t")), (("0",), (":w",)),
            ((":t", " "), (":t", "-")),
        ):
            self.assert_differ(drops + [join("j", *one)], drops + [join("j", *other)])
        for letter in "abcdefghijklmnopqrstuvwxyz":
            self.assert_differ(drops + [join("j", letter, ":w")], drops + [join("j", ":w", ":w")])
            self.assert_differ(drops + [join("j", letter, ":t")], drops + [join("j", ":t", letter)])

    def test_in_one_field_of_many(self):
        one = [("drop", "t"), ("copy", "k", "z")]
        for values in self.assert_differ(one, [("drop", "t"), ("copy", "n", "z")]):
            self.assertNotEqual(values[0], values[1])
        one = [("copy", "k", "z"), ("rename", "w", "v"), ("drop", "t")]
        other = [("copy", "w", "v"), ("copy", "n", "z"), ("drop", "t"), ("drop", "w")]
        self.assert_differ(one, other)

    def test_steps_by_chance(self):
        chance = random.Random(32)
        found = {"agree": 0, "differ": 0}
        while found["differ"] < 150 or found["agree"] < 150:
            form = some_form(chance)
            one, fields = some_steps_to_a_form(chance, form, 6, 2)
            other = other_steps(chance, form, one, fields)
            tests = together(form, tests_of(form, one), tests_of(form, other))
            if squares_of(tests) > 200:
                continue
            told = agreement(form, one, other)
            found[told[0]] += 1
            self.assertEqual(agreement(form, other, one)[0], told[0])
            if told[0] == "differ":
                self.assert_apart(form, one, other, told[1])
                continue
            self.assertEqual([choice for choice, _ in told[1]], choices_as_told(tests))
            self.assertEqual(told[1], normal(form, one, tests=tests))
            for values in values_to_try(chance, form, tests):
                self.assertEqual(run(form, one, values)[0], run(form, other, values)[0])


class RefusedTest(AgreementTest):
    def test_the_first_one(self):
        with self.assertRaises(BadStep) as caught:
            agreement(FORM, [("drop", "n"), ("drop", "n")], [("drop", "z")])
        self.assertEqual(caught.exception.at, 1)

    def test_the_second_one(self):
        for other, at in (([("drop", "k"), ("drop", "n"), ("scale", "w", 1, 1)], 2), (None, 0), ([5], 0), ("x", 0)):
            with self.assertRaises(BadStep) as caught:
                agreement(FORM, [("drop", "n")], other)
            self.assertEqual(caught.exception.at, at)

    def test_too_many_or_no_fields(self):
        many = [("copy", "n", "x"), ("copy", "n", "y")]
        none = [("drop", field) for field, _ in FORM]
        for steps in (many, none):
            for one, other in ((steps, []), ([], steps), (steps, steps)):
                with self.assertRaises(BadStep) as caught:
                    agreement(FORM, one, other)
                self.assertEqual(caught.exception.at, len(steps))

    def test_unlike_ends(self):
        for one, other in (
            ([], [("drop", "n")]), ([("rename", "n", "z")], []), ([("copy", "n", "z")], [("copy", "m", "z")]),
            ([("copy", "n", "z")], [("sum", "z", ("n",))]), ([("copy", "n", "z")], [("copy", "n", "y")]),
            ([("put", "z", "word", "a")], [("put", "z", "text", "a")]), ([table("n", "word", (), ("a",))], []),
        ):
            for first, second in ((one, other), (other, one)):
                with self.assertRaises(WrongEnd):
                    agreement(FORM, first, second)

    def test_which_goes_first(self):
        with self.assertRaises(BadStep) as caught:
            agreement(FORM, [("drop", "t"), ("drop", "z")], [("drop", "z")])
        self.assertEqual(caught.exception.at, 1)
        with self.assertRaises(BadStep) as caught:
            agreement(FORM, [("drop", "t")], [("drop", "t"), ("drop", "n"), ("drop", "n")])
        self.assertEqual(caught.exception.at, 2)


class StaysTest(AgreementTest):
    def test_what_is_handed_in_stays(self):
        for form, steps, _ in by_chance(33, 40):
            other = written_otherwise(form, steps)
            handed = copy.deepcopy((steps, other))
            agreement(form, steps, other)
            self.assertEqual((steps, other), handed)

    def test_told_rows_changed(self):
        steps = [case("n", 1, [("scale", "k", 0, 5)])]
        told = agreement(FORM, steps, steps)
        kept = copy.deepcopy(told)
        told[1].clear()
        self.assertEqual(agreement(FORM, steps, steps), kept)

    def test_the_same_is_told_again(self):
        chance = random.Random(34)
        for form, steps, fields in by_chance(34, 40):
            other = other_steps(chance, form, steps, fields)
            if squares_of(together(form, tests_of(form, steps), tests_of(form, other))) <= 200:
                self.assertEqual(agreement(form, steps, other), agreement(form, list(steps), tuple(other)))

    def test_by_names(self):
        self.assertEqual(agreement(form=FORM, one=[], other=()), agreement(FORM, (), []))
        self.assertEqual(str(inspect.signature(agreement)), "(form, one, other)")
        self.assertEqual(agreement.__module__, module.__name__)


def held_behind(form, steps, values):
    return {field: value for (field, _), value in zip(form_behind(form, steps), done(form, steps, values))}


def written_otherwise(form, steps):
    """Steps that make the same: each is told another way, and the fields come in another order."""
    told = [otherwise(step, at) for at, step in enumerate(steps)]
    flat = [part for parts in told for part in parts]
    field, _ = form_behind(form, steps)[0]
    return [*flat, ("rename", field, "zzz"), ("copy", "zzz", field), ("drop", "zzz")]


def otherwise(step, at):
    word = step[0]
    if word == "rename":
        return [("copy", step[1], step[2]), ("drop", step[1])]
    if word == "scale":
        return [("scale", step[1], 1, 3), ("scale", step[1], step[2], step[3] - 3 * step[2])]
    if word == "sum":
        return [("sum", step[1], tuple(reversed(step[2])))]
    if word == "put":
        return [("put", "zz", step[2], step[3]), ("rename", "zz", step[1])]
    if word == "copy":
        return [("copy", step[1], "zz"), ("copy", "zz", step[2]), ("drop", "zz")]
    if word == "join":
        parts = step[2]
        return [("join", "zz", parts[:1]), ("join", step[1], (("field", "zz"), *parts[1:])), ("drop", "zz")]
    if word == "table":
        return [(*step[:3], tuple(reversed(step[3])), step[4])]
    if word == "case":
        return [step] if at % 2 else [("copy", step[1], "zz"), (word, "zz", *step[2:]), ("drop", "zz")] \
            if keeps(step, step[1]) else [step]
    return [step]


def keeps(step, field):
    """Whether a case may ask a copy of its field instead: the copy is no name within it."""
    return "zz" not in repr(step)


def other_steps(chance, form, one, fields):
    """Steps to the same fields: much the same ones, or others."""
    if chance.random() < 0.5:
        return written_otherwise(form, one)
    other = list(one)
    if other and chance.random() < 0.6:
        at = chance.randrange(len(other))
        other[at] = bent(chance, other[at])
        return other
    more, behind = some_steps(chance, fields, 2, 1)
    other = [*one, *more]
    for field, sort in behind:
        if (field, sort) not in fields:
            other.append(("drop", field))
    for field, sort in fields:
        if (field, sort) not in behind:
            other.append(("put", field, sort, some_values(chance, ((field, sort),))[0]))
    return other


def bent(chance, step):
    """The step with one thing in it another one."""
    word = step[0]
    if word == "put":
        return (*step[:3], some_values(chance, ((step[1], step[2]),))[0])
    if word == "scale":
        return (*step[:2], step[2] + chance.choice((-1, 0, 1)), step[3] + chance.choice((-1, 0, 1)))
    if word == "sum":
        return (*step[:2], step[2][:5] + (chance.choice(step[2]),))
    if word == "join":
        parts = list(step[2])
        chance.shuffle(parts)
        return (*step[:2], tuple(parts))
    if word == "table":
        values = CODES if step[2] == "code" else WORDS
        return (*step[:3], tuple((value, chance.choice(values)) for value, _ in step[3]), step[4])
    if word == "case":
        return (*step[:3], step[3], step[3])
    return step


if __name__ == "__main__":
    unittest.main()
