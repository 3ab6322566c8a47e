"""Squares: tests, normal forms, and what squares make of values. [15] [16] [17]"""

import copy
import inspect
import itertools
import random
import unittest

from eventledger import squares as module
from eventledger.squares import normal, tests_of, value_by
from eventledger.steps import done, form_behind
from making import run, some_form, some_steps_to_a_form, some_values

FORM = (("n", "code"), ("k", "code"), ("m", "amount"), ("w", "word"), ("t", "text"))
N = ("number", 0, (("n", 1),))
K = ("number", 0, (("k", 1),))
M = ("number", 0, (("m", 1),))
W = ("same", "w")
T = ("text", (("field", "t"),))
SAME = (N, K, M, W, T)
OTHERS = {"code": (-10 ** 15 + 3, 10 ** 15 - 7), "word": ("qqqqqqqq", "xqz"), "amount": (17, -4), "text": ("", "Q q")}


def case(field, value, yes=(), no=()):
    return ("case", field, value, yes, no)


def table(field, sort, rows, other=None):
    return ("table", field, sort, rows, other)


def number(value):
    return ("number", value, ())


class TestsTest(unittest.TestCase):
    def test_no_tests(self):
        for steps in (
            [], (), [("scale", "n", 2, 1)], [("drop", "n"), ("copy", "w", "v"), ("join", "j", (("field", "w"),))],
            [table("n", "code", ())], [table("n", "word", (), ("a",))],
        ):
            self.assertEqual(tests_of(FORM, steps), ())

    def test_a_case(self):
        self.assert_tests([case("n", 3)], (("n", (3,)),))
        self.assert_tests([case("w", "ab")], (("w", ("ab",)),))
        self.assert_tests([case("n", 0, [("drop", "n")], [("drop", "n")])], (("n", (0,)),))

    def test_rows_of_a_table(self):
        self.assert_tests([table("n", "code", ((5, 0), (-2, 1), (3, 5)))], (("n", (-2, 3, 5)),))
        self.assert_tests([table("w", "code", (("b", 0), ("a", 1)), (7,))], (("w", ("a", "b")),))

    def test_values_rise_and_fields_go_by_the_form(self):
        steps = [
            case("w", "b"), case("k", 9), case("w", "aa"), case("n", 2), case("k", -9), case("n", 10), case("w", "a")]
        self.assert_tests(steps, (("n", (2, 10)), ("k", (-9, 9)), ("w", ("a", "aa", "b"))))

    def test_a_value_twice(self):
        self.assert_tests([case("n", 3), case("n", 3), table("n", "code", ((3, 4),))], (("n", (3,)),))

    def test_behind_scales(self):
        self.assert_tests([("scale", "n", 2, 1), case("n", 7)], (("n", (3,)),))
        self.assert_tests([("scale", "n", -3, 2), case("n", 8)], (("n", (-2,)),))
        self.assert_tests([("scale", "n", -3, 2), case("n", -7)], (("n", (3,)),))
        self.assert_tests([("scale", "n", 1, 5), case("n", 3)], (("n", (-2,)),))
        self.assert_tests([("scale", "n", -1, 0), case("n", 3), case("n", -4)], (("n", (-3, 4)),))
        self.assert_tests([("scale", "n", 2, 0), ("scale", "n", -2, 1), case("n", -7)], (("n", (2,)),))
        self.assert_tests([("scale", "n", 10 ** 14, 1), case("n", 10 ** 15 - 10 ** 14 + 1)], (("n", (9,)),))

    def test_that_no_value_answers_yes(self):
        for times, plus, value in ((2, 0, 3), (2, 1, 4), (-2, 0, -1), (-3, 1, 3), (5, 2, -4), (10, 0, 1), (-10, 0, -1)):
            self.assert_tests([("scale", "n", times, plus), case("n", value)], ())
        steps = [("scale", "n", 2, 0), table("n", "code", ((1, 5), (2, 6), (3, 7)))]
        self.assert_tests(steps, (("n", (1,)),))
        steps = [("scale", "n", 2, 0), case("n", 1, [case("k", 1)], [case("k", 2)])]
        self.assert_tests(steps, (("k", (2,)),))

    def test_of_times_nought_is_a_constant(self):
        for value in (0, 4, 5):
            self.assert_tests([("scale", "n", 0, 4), case("n", value)], ())
        self.assert_tests([("scale", "n", 0, 4), case("n", 4, [case("k", 1)], [case("k", 2)])], (("k", (1,)),))
        self.assert_tests([("scale", "n", 0, 4), case("n", 5, [case("k", 1)], [case("k", 2)])], (("k", (2,)),))
        self.assert_tests([("scale", "n", 0, 4), ("scale", "n", 3, 1), table("n", "code", ((13, 1), (0, 2)))], ())

    def test_of_constants(self):
        self.assert_tests([("put", "c", "code", 1), case("c", 1, [case("n", 1)], [case("n", 2)])], (("n", (1,)),))
        self.assert_tests([("put", "v", "word", "a"), case("v", "b", [case("n", 1)], [case("n", 2)])], (("n", (2,)),))
        self.assert_tests([("drop", "n"), ("put", "n", "code", 1), case("n", 1), table("n", "code", ((1, 2),))], ())

    def test_behind_copies_and_renamings(self):
        self.assert_tests([("copy", "n", "c"), ("drop", "n"), case("c", 4)], (("n", (4,)),))
        self.assert_tests([("rename", "w", "v"), case("v", "a")], (("w", ("a",)),))
        self.assert_tests([("rename", "n", "z"), ("rename", "k", "n"), case("n", 4), case("z", 5)],
                          (("n", (5,)), ("k", (4,))))
        self.assert_tests([("copy", "n", "c"), ("scale", "c", 2, 0), case("c", 4), case("n", 3)], (("n", (2, 3)),))
        self.assert_tests([("drop", "k"), ("rename", "n", "k"), case("k", 4)], (("n", (4,)),))

    def test_behind_tables(self):
        # A value that has a row is another one behind it, a settled one; the rest are as they were.
        steps = [table("n", "code", ((1, 10), (2, 20))), case("n", 10)]
        self.assert_tests(steps, (("n", (1, 2, 10)),))
        steps = [table("n", "code", ((1, 10), (2, 20))), case("n", 20, [case("k", 1)], [case("k", 2)])]
        self.assert_tests(steps, (("n", (1, 2, 20)), ("k", (1, 2))))
        # Where all values become constants behind it nothing more is tested.
        steps = [table("n", "code", ((1, 10),), (5,)), case("n", 10), case("n", 5), case("n", 7)]
        self.assert_tests(steps, (("n", (1,)),))
        steps = [table("n", "code", (), (5,)), case("n", 5, [case("k", 1)], [case("k", 2)])]
        self.assert_tests(steps, (("k", (1,)),))
        steps = [table("w", "code", (("a", 1), ("b", 2)), (3,)), ("scale", "w", 2, 0), case("w", 4, [case("n", 1)], [])]
        self.assert_tests(steps, (("n", (1,)), ("w", ("a", "b"))))
        steps = [table("w", "code", (("a", 1), ("b", 2)), (3,)), case("w", 4, [case("n", 1)], [])]
        self.assert_tests(steps, (("w", ("a", "b")),))
        steps = [("scale", "n", 2, 0), table("n", "code", ((2, 7), (3, 8))), ("scale", "n", 3, 1), case("n", 13)]
        self.assert_tests(steps, (("n", (1, 2)),))

    def test_fields_settled_on_the_way(self):
        self.assert_tests([case("n", 1, [case("n", 2)], [])], (("n", (1,)),))
        for value, k in ((1, 1), (2, 2)):
            steps = [case("n", 1, [case("n", value, [case("k", 1)], [case("k", 2)])], [])]
            self.assert_tests(steps, (("n", (1,)), ("k", (k,))))
        self.assert_tests([("copy", "n", "c"), case("n", 1, [case("c", 2)], [])], (("n", (1,)),))
        self.assert_tests([case("n", 1, [("scale", "n", 2, 0), case("n", 8)], [("scale", "n", 2, 0)])], (("n", (1,)),))
        # Behind the case those that answered no come to the test, too.
        self.assert_tests([case("n", 1), case("n", 2)], (("n", (1, 2)),))
        self.assert_tests([case("n", 1, [], [case("n", 2)])], (("n", (1, 2)),))

    def test_where_none_of_the_values_come(self):
        steps = [case("n", 1, [], [case("n", 1, [case("k", 5)], [case("k", 6)])])]
        self.assert_tests(steps, (("n", (1,)), ("k", (6,))))
        steps = [case("n", 1, [case("n", 2, [case("k", 5)], [])], [])]
        self.assert_tests(steps, (("n", (1,)),))
        steps = [("copy", "w", "v"), case("w", "a", [], [case("v", "a", [case("n", 5)], [])])]
        self.assert_tests(steps, (("w", ("a",)),))
        steps = [("put", "c", "code", 0),
                 case("n", 1, [("scale", "c", 1, 1)], []), case("k", 1, [("scale", "c", 1, 1)], []),
                 case("c", 2, [case("w", "a")], []), case("c", 3, [case("w", "b")], [])]
        self.assert_tests(steps, (("n", (1,)), ("k", (1,)), ("w", ("a",))))

    def test_settled_on_one_way_alone(self):
        steps = [case("k", 1, [case("n", 1, [("scale", "k", 0, 50)], [])], []), case("k", 50, [case("n", 2)], [])]
        self.assert_tests(steps, (("n", (1, 2)), ("k", (1, 50))))
        steps = [case("k", 1, [case("n", 1, [("scale", "k", 0, -1)], [])], []),
                 case("k", -1, [("scale", "k", 0, 3)], []), case("k", 3, [case("n", 7)], [])]
        self.assert_tests(steps, (("n", (1, 7)), ("k", (-1, 1, 3))))

    def test_within_sides_of_cases_within_cases(self):
        steps = [case(
            "n", 1, [case("k", 2, [case("w", "a")], (case("w", "b"),))], (case("k", 3, (), [case("w", "c")]),))]
        self.assert_tests(steps, (("n", (1,)), ("k", (2, 3)), ("w", ("a", "b", "c"))))

    def test_steps_by_chance(self):
        for form, steps, _ in by_chance(17, 500):
            self.assertEqual(tests_of(form, steps), tests_as_told(form, steps), (form, steps))

    def assert_tests(self, steps, wanted):
        told = tests_of(FORM, steps)
        self.assertEqual(told, wanted)
        self.assertEqual(told, tests_as_told(FORM, steps))
        self.assertEqual(tests_of(FORM, tuple(steps)), wanted)
        self.assertEqual([type(part) for test in told for part in (test, *test)], [tuple, str, tuple] * len(told))


class NormalTest(unittest.TestCase):
    def test_no_steps(self):
        self.assertEqual(normal(FORM, []), [((), SAME)])

    def test_told_is_a_list_of_tuples(self):
        rows = normal(FORM, [case("n", 1)])
        self.assertIs(type(rows), list)
        self.assertTrue(all(type(row) is tuple and type(row[0]) is tuple and type(row[1]) is tuple for row in rows))

    def test_squares_in_their_order(self):
        steps = [case("w", "b"), case("n", 5), case("w", "a"), case("n", -1)]
        self.assertEqual([choice for choice, _ in normal(FORM, steps)], [
            (("n", n), ("w", w)) for n in (-1, 5, None) for w in ("a", "b", None)])

    def test_fields_that_are_fixed(self):
        rows = normal(FORM, [case("w", "b"), case("n", 5)])
        self.assertEqual(rows, [
            ((("n", 5), ("w", "b")), (number(5), K, M, ("word", "b"), T)),
            ((("n", 5), ("w", None)), (number(5), K, M, W, T)),
            ((("n", None), ("w", "b")), (N, K, M, ("word", "b"), T)),
            ((("n", None), ("w", None)), SAME),
        ])

    def test_the_order_in_which_the_steps_leave_the_fields(self):
        steps = [("drop", "t"), ("rename", "n", "z"), ("copy", "w", "a"), ("drop", "w"), ("put", "t", "code", 1)]
        self.assertEqual(normal(FORM, steps), [((), (N, K, M, W, number(1)))])
        yes, no = [("copy", "n", "y"), ("copy", "k", "z")], [("copy", "m", "x"), ("copy", "n", "z"), ("copy", "k", "y")]
        steps = [("drop", "t"), ("drop", "w"), case("n", 1, yes, no + [("drop", "x")])]
        self.assertEqual(normal(FORM, steps), [
            ((("n", 1),), (number(1), K, M, number(1), K)), ((("n", None),), (N, K, M, K, N))])

    def test_scales(self):
        self.assert_made([("scale", "n", 3, -2)], 0, ("number", -2, (("n", 3),)))
        self.assert_made([("scale", "n", 3, -2), ("scale", "n", -1, 1)], 0, ("number", 3, (("n", -3),)))
        self.assert_made([("scale", "m", 0, 7)], 2, number(7))
        self.assert_made([("scale", "m", 0, 0), ("scale", "m", 5, 1)], 2, number(1))
        self.assert_made([("scale", "m", 10 ** 14, 1), ("scale", "m", 10 ** 14, 0)], 2,
                         ("number", 10 ** 14, (("m", 10 ** 28),)))

    def test_sums(self):
        self.assert_made([("sum", "s", ("m",)), ("drop", "t")], 4, M)
        self.assert_made([("sum", "s", ("m", "k", "n", "m")), ("drop", "t")], 4,
                         ("number", 0, (("n", 1), ("k", 1), ("m", 2))))
        steps = [("scale", "n", -2, 3), ("copy", "k", "c"), ("sum", "s", ("n", "m", "c", "n")), ("drop", "t"),
                 ("drop", "w"), ("sum", "z", ("s", "s"))]
        self.assert_made(steps, 4, ("number", 6, (("n", -4), ("k", 1), ("m", 1))))
        self.assert_made(steps, 5, ("number", 12, (("n", -8), ("k", 2), ("m", 2))))

    def test_factors_are_not_nought(self):
        steps = [("copy", "n", "c"), ("scale", "c", -1, 4), ("sum", "s", ("n", "m", "c")), ("drop", "t"), ("drop", "w")]
        self.assert_made(steps, 4, ("number", 4, (("m", 1),)))
        steps = [("copy", "n", "c"), ("scale", "c", -1, 0), ("sum", "s", ("n", "c")), ("drop", "t"), ("drop", "w")]
        self.assert_made(steps, 4, number(0))

    def test_a_sum_of_what_is_fixed(self):
        steps = [case("n", 4), ("drop", "t"), ("sum", "s", ("n", "k", "n"))]
        self.assertEqual([outputs[4] for _, outputs in normal(FORM, steps)], [
            ("number", 8, (("k", 1),)), ("number", 0, (("n", 2), ("k", 1)))])

    def test_texts(self):
        join = ("join", "j", (("say", "a "), ("field", "t"), ("field", "w"), ("say", "-"), ("say", "9")))
        self.assert_made([("drop", "n"), join], 4,
                         ("text", (("say", "a "), ("field", "t"), ("field", "w"), ("say", "-9"))))
        self.assert_made([("put", "e", "text", ""), ("drop", "n")], 4, ("text", ()))
        self.assert_made([("put", "e", "text", 'A "b"'), ("drop", "n")], 4, ("text", (("say", 'A "b"'),)))
        self.assert_made([("copy", "t", "e"), ("drop", "n")], 4, T)

    def test_texts_within_texts(self):
        steps = [
            ("put", "e", "text", ""), ("put", "q", "text", "Q"), ("drop", "n"), ("drop", "k"),
            ("join", "j", (("say", "a"), ("field", "e"), ("say", "b"), ("field", "t"), ("field", "e"), ("field", "t"))),
            ("join", "l", (
                ("field", "e"), ("field", "j"), ("field", "q"), ("say", "c"), ("field", "j"), ("field", "e"))),
            ("drop", "e"), ("drop", "q"),
        ]
        inner = (("say", "ab"), ("field", "t"), ("field", "t"))
        self.assert_made(steps, 3, ("text", inner))
        self.assert_made(steps, 4, ("text", (*inner, ("say", "Qcab"), ("field", "t"), ("field", "t"))))
        steps = [
            ("put", "e", "text", ""), ("join", "j", (("field", "e"), ("field", "e"))), ("drop", "n"), ("drop", "k")]
        self.assert_made(steps, 4, ("text", ()))

    def test_fixed_words_in_texts(self):
        join = ("join", "j", (
            ("say", "a"), ("field", "w"), ("say", "b"), ("field", "t"), ("field", "w"), ("field", "w")))
        self.assertEqual([outputs[4] for _, outputs in normal(FORM, [case("w", "xy"), ("drop", "n"), join])], [
            ("text", (("say", "axyb"), ("field", "t"), ("say", "xyxy"))),
            ("text", (("say", "a"), ("field", "w"), ("say", "b"), ("field", "t"), ("field", "w"), ("field", "w")))])

    def test_tables(self):
        rows = normal(FORM, [table("n", "word", ((1, "x"), (2, "y")), ("z",)), table("w", "code", (("a", 5),), (6,))])
        self.assertEqual([outputs for _, outputs in rows], [
            (("word", word), K, M, number(code), T) for word in "xyz" for code in (5, 6)])
        rows = normal(FORM, [table("w", "word", (("a", "b"), ("b", "a")))])
        self.assertEqual([(choice[0][1], outputs[3]) for choice, outputs in rows], [
            ("a", ("word", "b")), ("b", ("word", "a")), (None, W)])
        rows = normal(FORM, [("scale", "n", 2, 1), table("n", "code", ((3, -3),))])
        self.assertEqual([(choice[0][1], outputs[0]) for choice, outputs in rows], [
            (1, number(-3)), (None, ("number", 1, (("n", 2),)))])

    def test_cases(self):
        rows = normal(FORM, [case("n", 1, [("scale", "k", 2, 0)], [("scale", "k", 3, 0)]),
                             case("w", "a", [case("n", 2, [("scale", "m", 0, 0)], [])], [])])
        self.assertEqual([choice for choice, _ in rows], [
            (("n", n), ("w", w)) for n in (1, 2, None) for w in ("a", None)])
        factors = [dict(outputs[1][2])["k"] for _, outputs in rows]
        self.assertEqual(factors, [2, 2, 3, 3, 3, 3])
        self.assertEqual([outputs[2] for _, outputs in rows], [M, M, number(0), M, M, M])

    def test_a_test_that_no_value_answers_yes(self):
        steps = [("scale", "n", 2, 0), case("n", 3, [("scale", "k", 0, 1)], [("scale", "k", 0, 2)])]
        self.assertEqual(normal(FORM, steps), [((), (("number", 0, (("n", 2),)), number(2), M, W, T))])

    def test_steps_by_chance(self):
        for form, steps, fields in by_chance(18, 300):
            tests = tests_of(form, steps)
            rows = normal(form, steps)
            self.assertEqual([choice for choice, _ in rows], choices_as_told(tests))
            for choice, outputs in rows:
                self.assertEqual(len(outputs), len(fields))
                for output, (_, sort) in zip(outputs, fields):
                    self.assert_output(form, choice, output, sort)

    def assert_output(self, form, choice, output, sort):
        sorts = dict(form)
        held = {field for field, value in choice if value is not None}
        if sort in ("code", "amount"):
            word, constant, parts = output
            self.assertEqual((word, type(constant), type(parts)), ("number", int, tuple))
            fields = [field for field, _ in parts]
            self.assertEqual(fields, [field for field in sorts if field in fields])
            self.assertTrue(all(type(factor) is int and factor != 0 for _, factor in parts))
            self.assertTrue(all(sorts[field] in ("code", "amount") for field in fields))
            self.assertLessEqual(len(fields), 1 if sort == "code" else 6)
        elif sort == "word":
            self.assertIn(output[0], ("word", "same"))
            fields = [output[1]] if output[0] == "same" else []
            self.assertTrue(all(sorts[field] == "word" for field in fields))
        else:
            self.assertEqual((output[0], type(output[1]), len(output)), ("text", tuple, 2))
            self.assertNotIn(("say", ""), output[1])
            self.assertFalse(any(one[0] == two[0] == "say" for one, two in itertools.pairwise(output[1])))
            fields = [thing for part, thing in output[1] if part == "field"]
            self.assertTrue(all(sorts[field] in ("word", "text") for field in fields))
        self.assertFalse(held & set(fields))

    def assert_made(self, steps, at, output):
        rows = normal(FORM, steps)
        self.assertEqual(len(rows), 1)
        self.assertEqual(rows[0][0], ())
        self.assertEqual(rows[0][1][at], output)


class MoreTestsTest(unittest.TestCase):
    def test_beyond_their_own(self):
        steps = [("scale", "n", 2, 0), case("n", 6, [("scale", "k", 0, 1)], [])]
        rows = normal(FORM, steps, tests=(("n", (1, 3)), ("w", ("a",))))
        double = ("number", 0, (("n", 2),))
        self.assertEqual(rows, [
            ((("n", 1), ("w", "a")), (number(2), K, M, ("word", "a"), T)),
            ((("n", 1), ("w", None)), (number(2), K, M, W, T)),
            ((("n", 3), ("w", "a")), (number(6), number(1), M, ("word", "a"), T)),
            ((("n", 3), ("w", None)), (number(6), number(1), M, W, T)),
            ((("n", None), ("w", "a")), (double, K, M, ("word", "a"), T)),
            ((("n", None), ("w", None)), (double, K, M, W, T)),
        ])

    def test_of_steps_that_have_none(self):
        self.assertEqual(normal(FORM, [], tests=()), [((), SAME)])
        self.assertEqual(normal(FORM, [], tests=(("k", (0,)),)), [
            ((("k", 0),), (N, number(0), M, W, T)), ((("k", None),), SAME)])

    def test_just_their_own(self):
        for form, steps, _ in by_chance(19, 60):
            tests = tests_of(form, steps)
            self.assertEqual(normal(form, steps, tests=tests), normal(form, steps))
            self.assertEqual(normal(form, steps, tests=None), normal(form, steps))

    def test_lists_for_tuples(self):
        steps = [case("n", 1)]
        self.assertEqual(normal(FORM, steps, tests=[("n", (1, 2)), ("w", ["a"])]),
                         normal(FORM, steps, tests=(("n", (1, 2)), ("w", ("a",)))))

    def test_those_of_other_steps_too(self):
        chance = random.Random(20)
        for form, steps, _ in by_chance(20, 150):
            other, _ = some_steps_to_a_form(chance, form, 4, 2)
            tests = together(form, tests_of(form, steps), tests_of(form, other))
            if squares_of(tests) <= 200:
                rows = normal(form, steps, tests=tests)
                self.assertEqual([choice for choice, _ in rows], choices_as_told(tests))
                for values in values_to_try(chance, form, tests):
                    self.assertEqual(value_by(rows, form, values), done(form, steps, values))


class ValueTest(unittest.TestCase):
    def test_each_sort_of_output(self):
        rows = [((("n", 1),), (number(7), ("word", "a"), ("text", ()), ("number", 1, (("n", 2), ("m", -3))))),
                ((("n", None),), (N, W, ("text", (("say", "a "), ("field", "t"), ("field", "w"), ("say", "!"))), M))]
        for handed in (rows, tuple(rows)):
            self.assertEqual(value_by(handed, FORM, (1, 0, 5, "x", "T")), (7, "a", "", -12))
            self.assertEqual(value_by(handed, FORM, (2, 0, 5, "x", "T")), (2, "x", "a Tx!", 5))

    def test_which_square(self):
        tests = (("n", (1, 3)), ("w", ("a", "b")))
        rows = [(choice, (number(at),)) for at, choice in enumerate(choices_as_told(tests))]
        for n, w, at in ((1, "a", 0), (1, "b", 1), (1, "c", 2), (3, "a", 3), (3, "b", 4), (3, "", 5), (2, "a", 6),
                         (-1, "b", 7), (0, "aa", 8), (10 ** 40, "c", 8)):
            self.assertEqual(value_by(rows, FORM, (n, 1, 3, w, "a")), (at,))

    def test_told_is_a_tuple(self):
        told = value_by(normal(FORM, []), FORM, (1, 2, 3, "a", "T"))
        self.assertIs(type(told), tuple)
        self.assertEqual(told, (1, 2, 3, "a", "T"))

    def test_a_number_changed(self):
        rows = normal(FORM, [case("n", 1, [("scale", "k", 0, 5)], [("scale", "k", 2, 0)])])
        choice, outputs = rows[0]
        rows[0] = (choice, (outputs[0], number(10 ** 39), *outputs[2:]))
        choice, outputs = rows[1]
        rows[1] = (choice, (outputs[0], ("number", -4, (("k", 3),)), *outputs[2:]))
        self.assertEqual(value_by(rows, FORM, (1, 7, 0, "a", ""))[1], 10 ** 39)
        self.assertEqual(value_by(rows, FORM, (2, 7, 0, "a", ""))[1], 17)
        rows[0] = ((("n", 2),), rows[0][1])
        self.assertEqual(value_by(rows, FORM, (1, 7, 0, "a", ""))[1], 17)
        self.assertEqual(value_by(rows, FORM, (2, 7, 0, "a", ""))[1], 10 ** 39)

    def test_a_text_changed(self):
        rows = [((("w", "a"),), (("text", (("say", '"Any" Text '), ("field", "w"))), ("word", "zz"))),
                ((("w", None),), (("text", (("field", "t"), ("field", "t"))), W))]
        self.assertEqual(value_by(rows, FORM, (1, 7, 0, "a", "T")), ('"Any" Text a', "zz"))
        self.assertEqual(value_by(rows, FORM, (1, 7, 0, "b", "T")), ("TT", "b"))

    def test_it_is_what_the_steps_make(self):
        chance = random.Random(21)
        for form, steps, fields in by_chance(21, 300):
            rows = normal(form, steps)
            for values in values_to_try(chance, form, tests_of(form, steps)):
                made = value_by(rows, form, values)
                self.assertEqual(made, done(form, steps, values))
                held, _ = run(form, steps, values)
                self.assertEqual(made, tuple(held[name] for name, _ in fields))


class StaysTest(unittest.TestCase):
    def test_what_is_handed_in_stays(self):
        for form, steps, _ in by_chance(22, 60):
            as_ahead = copy.deepcopy(steps)
            tests = [(field, list(values)) for field, values in tests_of(form, steps)]
            told = copy.deepcopy(tests)
            rows = normal(form, steps, tests=tests)
            kept = copy.deepcopy(rows)
            value_by(rows, form, some_values(random.Random(1), form))
            self.assertEqual(repr((steps, tests, rows)), repr((as_ahead, told, kept)))

    def test_told_lists_changed(self):
        steps = [case("n", 1, [("scale", "k", 0, 5)], [])]
        first = normal(FORM, steps)
        second = normal(FORM, steps)
        first.clear()
        self.assertEqual(len(second), 2)
        self.assertEqual(normal(FORM, steps), second)

    def test_steps_changed_later(self):
        side = [("scale", "k", 0, 5)]
        steps = [case("n", 1, side, [])]
        rows = normal(FORM, steps)
        tests = tests_of(FORM, steps)
        side.append(case("k", 5, [("scale", "m", 0, 0)], []))
        steps.append(case("n", 2))
        self.assertEqual(rows, [
            ((("n", 1),), (number(1), number(5), M, W, T)), ((("n", None),), SAME)])
        self.assertEqual(tests, (("n", (1,)),))
        self.assertEqual(tests_of(FORM, steps), (("n", (1, 2)),))
        self.assertEqual(normal(FORM, steps)[0], ((("n", 1),), (number(1), number(5), number(0), W, T)))


class InterfaceTest(unittest.TestCase):
    def test_arguments_by_names(self):
        steps = [case("n", 1)]
        self.assertEqual(tests_of(form=FORM, steps=steps), (("n", (1,)),))
        rows = normal(form=FORM, steps=steps, tests=(("n", (1,)),))
        self.assertEqual(value_by(rows=rows, form=FORM, values=(1, 2, 3, "a", "b")), (1, 2, 3, "a", "b"))

    def test_tests_by_their_name_alone(self):
        with self.assertRaises(TypeError):
            normal(FORM, [], ())
        self.assertEqual(str(inspect.signature(normal)), "(form, steps, *, tests=None)")

    def test_defined_in_their_file(self):
        for function in (tests_of, normal, value_by):
            self.assertEqual(function.__module__, module.__name__)


def by_chance(seed, many):
    """Forms, steps of few enough squares, and the form behind them."""
    chance = random.Random(seed)
    told = []
    while len(told) < many:
        form = some_form(chance)
        steps, fields = some_steps_to_a_form(chance, form, 7, 3)
        if squares_of(tests_of(form, steps)) <= 200:
            assert form_behind(form, steps) == fields
            told.append((form, steps, fields))
    return told


def tests_as_told(form, steps):
    """The tests that values meet which are run through the steps; each that is met is tried, too."""
    found = {field: set() for field, _ in form}
    tried = set()
    while True:
        choices = [
            [*found[field], OTHERS[sort][0]] if sort in ("code", "word") else [OTHERS[sort][0]] for field, sort in form]
        waiting = [values for values in itertools.product(*choices) if values not in tried]
        if not waiting:
            return tuple((field, tuple(sorted(found[field]))) for field, _ in form if found[field])
        for values in waiting:
            tried.add(values)
            for field, value in run(form, steps, values)[1]:
                found[field].add(value)


def choices_as_told(tests):
    fields = [field for field, _ in tests]
    return [tuple(zip(fields, values)) for values in itertools.product(*[(*values, None) for _, values in tests])]


def squares_of(tests):
    many = 1
    for _, values in tests:
        many *= len(values) + 1
    return many


def together(form, one, other):
    one, other = dict(one), dict(other)
    tests = [(field, tuple(sorted({*one.get(field, ()), *other.get(field, ())}))) for field, _ in form]
    return tuple(test for test in tests if test[1])


def values_to_try(chance, form, tests):
    """Values of which fields are tested ones, their neighbours, and others."""
    tests = dict(tests)
    many = []
    for field, sort in form:
        values = list(OTHERS[sort]) + [some_values(chance, ((field, sort),))[0]]
        for value in tests.get(field, ()):
            values += [value] if sort == "word" else [value, value + 1, value - 1]
        many.append(values)
    return [tuple(chance.choice(values) for values in many) for _ in range(12)]


if __name__ == "__main__":
    unittest.main()
