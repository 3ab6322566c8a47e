"""Steps: which fit, the form behind them, and what they make of values. [14]"""

import copy
import random
import unittest

from eventledger import steps as module
from eventledger.errors import BadStep
from eventledger.forms import fits, is_form
from eventledger.steps import done, form_behind
from making import run, some_form, some_steps, some_values

FORM = (("n", "code"), ("m", "amount"), ("w", "word"), ("t", "text"))
VALUES = (3, -5, "ab", "A b")
N, M, W, T = FORM
SAME = ("scale", "n", 1, 0)


class Odd:
    """A thing of no kind that the document names."""


class Alike:
    """A thing that says of everything that it is the same."""

    __hash__ = None

    def __eq__(self, other):
        return True


NO_STEPS = [
    None, True, False, 0, 1, 1.0, "", "drop", b"drop", [], {}, {"drop": "n"}, set(), (), ((),), (None,), (0,), ("",),
    ([],), ({},), (("drop",), "n"), (["drop"], "n"), ("drop",), ("rename",), ("case",), ("Drop", "n"), ("drop ", "n"),
    ("delete", "n"), ("say", "a"), ("field", "n"), ("add", "n", ("n",)), (b"drop", "n"), (None, "n"), (1, "n", "z"),
    ("n",), ("drop", "n", "m", "w", "t", "z"), Odd(), Odd, len, range(2), frozenset(), object(),
    Alike(), (Alike(), "n"), (Alike(), "n", "z"), (Alike(), "z", "code", 1), (Alike(), "n", 1, (), ()),
]
ODD_THINGS = [None, True, False, 0, 7, 1.5, b"z", [], ["z"], (), ("z",), {}, {"z": 1}, set(), Odd(), Odd, Alike(), len,
              object()]
NO_NEW = ["n", "t", "", "A", "z1", "z z", "zzzzzzzzzzzzz", "\xe4", "z\n", "%", *ODD_THINGS]
NO_SIDES = [None, 1, "", "a", {}, set(), SAME, (("drop", "z"),), [None], Odd(), Alike(), ("a",)]
NOT_THERE = ["z", "", "N", "nn", "n ", "code", "%", *ODD_THINGS]

GOOD = [
    (("rename", "n", "z"), (("z", "code"), M, W, T)),
    (("rename", "m", "abcdefghijkl"), (N, ("abcdefghijkl", "amount"), W, T)),
    (("rename", "t", "a"), (N, M, W, ("a", "text"))),
    (("copy", "n", "z"), (*FORM, ("z", "code"))),
    (("copy", "m", "z"), (*FORM, ("z", "amount"))),
    (("copy", "w", "z"), (*FORM, ("z", "word"))),
    (("copy", "t", "z"), (*FORM, ("z", "text"))),
    (("drop", "n"), (M, W, T)),
    (("drop", "w"), (N, M, T)),
    (("drop", "t"), (N, M, W)),
    (("put", "z", "code", -7), (*FORM, ("z", "code"))),
    (("put", "z", "amount", 10 ** 15 - 1), (*FORM, ("z", "amount"))),
    (("put", "z", "word", "abcdefgh"), (*FORM, ("z", "word"))),
    (("put", "z", "text", ""), (*FORM, ("z", "text"))),
    (("put", "z", "text", "X" * 40), (*FORM, ("z", "text"))),
    (("scale", "n", 2, 1), FORM),
    (("scale", "m", 0, 0), FORM),
    (("scale", "m", -3, -4), FORM),
    (("sum", "z", ("n",)), (*FORM, ("z", "amount"))),
    (("sum", "z", ("m", "m", "n", "n", "m", "n")), (*FORM, ("z", "amount"))),
    (("join", "z", (("say", "a"),)), (*FORM, ("z", "text"))),
    (("join", "z", (("say", "abc xyz 09-8"),)), (*FORM, ("z", "text"))),
    (("join", "z", (("say", " "), ("say", "-")) * 4), (*FORM, ("z", "text"))),
    (("join", "z", (("field", "w"), ("field", "t"))), (*FORM, ("z", "text"))),
    (("join", "z", (("field", "t"),) * 8), (*FORM, ("z", "text"))),
    (("table", "n", "code", (), None), FORM),
    (("table", "n", "code", (), (5,)), FORM),
    (("table", "n", "code", ((1, 1), (2, 1), (3, 3), (-4, 0)), None), FORM),
    (("table", "n", "word", ((3, "x"),), ("y",)), (("n", "word"), M, W, T)),
    (("table", "n", "word", (), ("y",)), (("n", "word"), M, W, T)),
    (("table", "w", "word", (("ab", "x"), ("x", "ab")), None), FORM),
    (("table", "w", "word", (("ab", "ab"),), ("abcdefgh",)), FORM),
    (("table", "w", "code", (("ab", 1), ("x", 1), ("y", -1), ("z", 2)), (0,)), (N, M, ("w", "code"), T)),
    (("case", "n", 3, (), ()), FORM),
    (("case", "n", -3, [], []), FORM),
    (("case", "w", "ab", (("drop", "n"),), [("drop", "n")]), (M, W, T)),
    (("case", "w", "ab", [("drop", "n"), ("drop", "m")], (("drop", "m"), ("drop", "n"))), (W, T)),
    (("case", "n", 1, (("drop", "m"), ("put", "m", "amount", 1)), ()), (N, W, T, M)),
    (("case", "n", 1, (), (("drop", "m"), ("put", "m", "amount", 1))), FORM),
    (("case", "n", 1, (("put", "y", "code", 1), ("copy", "n", "z")), (("copy", "n", "z"), ("copy", "n", "y"))), (
        *FORM, ("y", "code"), ("z", "code"))),
    (("case", "n", 1, (("drop", "n"),), (("rename", "n", "z"), ("drop", "z"))), (M, W, T)),
    (("case", "n", 1, (("table", "w", "code", (), (1,)),), (("drop", "w"), ("put", "w", "code", 2))), (
        N, M, ("w", "code"), T)),
]
BAD = [
    *[("rename", old, "z") for old in NOT_THERE], *[("rename", "n", new) for new in NO_NEW],
    *[("copy", old, "z") for old in NOT_THERE], *[("copy", "n", new) for new in NO_NEW],
    *[("drop", old) for old in NOT_THERE],
    *[("put", new, "code", 1) for new in NO_NEW],
    *[("put", "z", sort, 1) for sort in ("", "Code", "number", "n", *ODD_THINGS)],
    *[("put", "z", sort, value) for sort in ("code", "amount")
      for value in ("1", "", "a", b"1", 1.0, True, False, None, (), (1,), [1], {}, Odd())],
    *[("put", "z", "word", value) for value in (
        "", "A", "abcdefghi", "a1", "a b", "a\n", 1, True, None, ("a",), ["a"])],
    *[("put", "z", "text", value) for value in ("x" * 41, "%", "a\nb", "\xe4", "\t", 1, True, None, ("a",), ["a"])],
    *[("scale", field, 1, 1) for field in ("w", "t", *NOT_THERE)],
    *[("scale", "n", times, 1) for times in ("1", 1.0, True, False, None, (1,), [1], Odd())],
    *[("scale", "m", 1, plus) for plus in ("1", 1.0, True, False, None, (1,), [1], Odd())],
    *[("sum", new, ("n",)) for new in NO_NEW],
    *[("sum", "z", (field,)) for field in ("w", "t", *NOT_THERE)],
    *[("sum", "z", ("m", field, "n")) for field in ("w", "t", *NOT_THERE)],
    *[("sum", "z", fields) for fields in (
        (), ("n",) * 7, ["n"], ["n", "m"], "n", "nm", {"n": 1}, {"n"}, None, 1, Odd())],
    *[("join", new, (("say", "a"),)) for new in NO_NEW],
    *[("join", "z", parts) for parts in (
        (), (("say", "a"),) * 9, [("say", "a")], "a", ("say", "a"), None, 1, {("say", "a"): 1}, {("say", "a")}, Odd())],
    *[("join", "z", (("say", "a"), ("say", saying))) for saying in (
        "", "abcdefghijklm", "A", "a_b", "a.b", "a\nb", "%", "\xe4", "\u0661", '"', "~", "+", *ODD_THINGS)],
    *[("join", "z", (("field", field), ("say", "a"))) for field in ("n", "m", *NOT_THERE)],
    *[("join", "z", (("field", "w"), part)) for part in (
        (), ("say",), ("field",), ("say", "a", "b"), ("field", "t", "t"), ["say", "a"], ["field", "t"], "a", "t",
        None, 1, ("put", "a"), ("", "a"), (None, "a"), ("Field", "t"), (["say"], "a"), (("say",), "a"), (Alike(), "a"),
        (Alike(), "t"), "sa", Odd(), Alike())],
    *[("table", field, "code", (), (1,)) for field in ("m", "t", *NOT_THERE)],
    *[("table", "n", sort, (), (1,)) for sort in ("amount", "text", "word", "", "n", *ODD_THINGS)],
    *[("table", "w", sort, (), ("a",)) for sort in ("amount", "text", "code", "", "w", *ODD_THINGS)],
    *[("table", "n", "code", rows, None) for rows in (
        [], [(1, 2)], None, 1, "", {1: 2}, {(1, 2)}, (1, 2), ((1, 2), (2, 2), (3, 2), (4, 2), (5, 2)), Odd(),
        ((1, 2), (1, 3)), ((1, 2), (1, 2)), ((1, 2), (2, 2), (3, 3), (1, 2)))],
    *[("table", "n", "code", ((7, 7), row), None) for row in (
        [1, 2], (1,), (), (1, 2, 3), None, 1, "12", ("1", 2), (1, "2"), (1, True), (True, 1), (1.0, 1), (1, None),
        (None, 1), ([1], 1), ((1,), 1), (1, (1,)), ("a", 1), (1, "a"), Odd(), Alike(), (Alike(), 1),
        (1, Alike()))],
    *[("table", "w", "word", (("a", "b"), row), None) for row in (
        ["x", "y"], ("x",), ("x", "y", "z"), "xy", ("x", ""), ("", "x"), ("x", "Y"), ("X", "y"), ("x", "abcdefghi"),
        ("abcdefghi", "x"), ("a", "b"), ("a", "c"), (1, "x"), ("x", 1), ("x", None), (["x"], "x"))],
    ("table", "n", "word", ((1, 2),), ("a",)), ("table", "n", "word", (("a", "b"),), ("a",)),
    ("table", "w", "code", (("a", "b"),), (1,)), ("table", "w", "code", ((1, 2),), (1,)),
    ("table", "n", "word", ((1, "a"),), None), ("table", "w", "code", (("a", 1),), None),
    *[("table", "n", "code", ((1, 2),), other) for other in (
        (), (1, 2), [1], 1, "1", ("1",), (True,), (None,), (1.0,), ("a",), False, 0, "", {1: 1}, {1}, Odd(), Alike(),
        (Alike(),))],
    *[("table", "n", "word", ((1, "a"),), other) for other in (
        (), ("a", "b"), ["a"], "a", ("A",), ("",), (1,), (None,))],
    *[("case", field, 1, (), ()) for field in ("m", "t", "w", *NOT_THERE)],
    *[("case", "n", value, (), ()) for value in ("1", "a", "", 1.0, True, False, None, (1,), [1], Odd())],
    *[("case", "w", value, (), ()) for value in ("", "A", "abcdefghi", "a1", 1, True, None, ("a",), ["a"], Odd())],
    ("case", "m", "t", (), ()), ("case", "t", "a", (), ()), ("case", "t", "", (), ()), ("case", "m", 1, (), ()),
    *[("case", "n", 1, side, ()) for side in NO_SIDES], *[("case", "n", 1, [], side) for side in NO_SIDES],
    *[("case", "n", 1, side, side) for side in NO_SIDES],
    ("case", "n", 1, (("drop", "m"),), ()), ("case", "n", 1, (), (("drop", "m"),)),
    ("case", "n", 1, (("drop", "m"),), (("drop", "w"),)),
    ("case", "n", 1, (("put", "z", "code", 1),), ()),
    ("case", "n", 1, (("put", "z", "code", 1),), (("put", "y", "code", 1),)),
    ("case", "n", 1, (("put", "z", "code", 1),), (("put", "z", "amount", 1),)),
    ("case", "n", 1, (("put", "z", "word", "a"),), (("put", "z", "text", "a"),)),
    ("case", "n", 1, (("table", "w", "code", (), (1,)),), ()),
    ("case", "n", 1, (("rename", "n", "z"),), ()),
    ("case", "n", 1, [["drop", "m"]], [["drop", "m"]]),
    ("case", "n", 1, [("drop", "m"), ("drop", "m")], [("drop", "m")]),
    ("case", "n", 1, (("case", "n", 1, (("drop", "m"),), ()),), ()),
]


class FitTest(unittest.TestCase):
    def test_each_word(self):
        for step, behind in GOOD:
            for steps in ([step], (step,)):
                told = form_behind(FORM, steps)
                self.assertEqual(told, behind, step)
                self.assertIs(type(told), tuple)
                self.assertTrue(is_form(told))
                self.assertEqual([type(field) for field in told], [tuple] * len(told))

    def test_no_steps(self):
        for steps in ([], ()):
            self.assertEqual(form_behind(FORM, steps), FORM)
            self.assertEqual(form_behind((("a", "text"),), steps), (("a", "text"),))

    def test_one_behind_the_other(self):
        steps = [
            ("rename", "w", "z"), ("copy", "z", "w"), ("drop", "n"), ("put", "n", "word", "a"),
            ("table", "n", "code", (), (1,)), ("sum", "s", ("n", "m")), ("scale", "s", 2, 0), ("drop", "m"),
            ("join", "j", (("field", "z"), ("field", "w"))),
        ]
        self.assertEqual(
            form_behind(FORM, steps),
            (("z", "word"), T, ("w", "word"), ("n", "code"), ("s", "amount"), ("j", "text")))

    def test_a_field_may_come_back(self):
        self.assertEqual(form_behind(FORM, [("drop", "n"), ("put", "n", "text", "")]), (M, W, T, ("n", "text")))
        self.assertEqual(form_behind(FORM, [("rename", "n", "z"), ("rename", "z", "n")]), FORM)

    def test_sixteen_steps_and_more(self):
        self.assertEqual(form_behind(FORM, [SAME] * 16), FORM)
        self.assertEqual(form_behind(FORM, (SAME,) * 60), FORM)

    def test_steps_by_chance(self):
        chance = random.Random(14)
        for _ in range(600):
            form = some_form(chance)
            steps, fields = some_steps(chance, form, 8, 3)
            if 1 <= len(fields) <= 6:
                self.assertEqual(form_behind(form, steps), tuple(fields))
            else:
                assert_refused(self, form, steps, len(steps))


class RefusedTest(unittest.TestCase):
    def test_each_word_bent(self):
        for step in [*BAD, *NO_STEPS]:
            assert_refused(self, FORM, [step], 0)
            assert_refused(self, FORM, (step,), 0)

    def test_too_few_and_too_many_parts(self):
        for step, _ in GOOD:
            for many in range(len(step)):
                assert_refused(self, FORM, [step[:many]], 0)
            for more in (None, "z", 1, (), step[-1]):
                assert_refused(self, FORM, [(*step, more)], 0)

    def test_lists_for_tuples(self):
        for step, _ in GOOD:
            assert_refused(self, FORM, [list(step)], 0)
            assert_refused(self, FORM, [SAME, list(step)], 1)
            for at, part in enumerate(step):
                if isinstance(part, tuple) and step[0] != "case":
                    assert_refused(self, FORM, [(*step[:at], list(part), *step[at + 1:])], 0)

    def test_another_word(self):
        for step, _ in GOOD:
            for word in ("", step[0].upper(), step[0] + " ", step[0][:-1], None, 1, [step[0]], (step[0],)):
                assert_refused(self, FORM, [(word, *step[1:])], 0)

    def test_no_list_or_tuple(self):
        for steps in (
            None, 1, True, "", "drop", {}, {("drop", "n"): 1}, set(), {("drop", "n")}, b"", range(0), Odd(), iter([]),
        ):
            assert_refused(self, FORM, steps, 0)

    def test_the_steps_themselves_for_a_list_of_them(self):
        assert_refused(self, FORM, ("drop", "n"), 0)

    def test_the_place_of_the_first(self):
        good = [("copy", "n", "y"), SAME, ("drop", "w")]
        for step in [*BAD[::7], *NO_STEPS]:
            for at in range(4):
                steps = good[:at] + [step] + good[at:]
                assert_refused(self, FORM, steps, at)
                assert_refused(self, FORM, steps + [None], at)

    def test_what_was_there_ahead(self):
        for at, steps in (
            (1, [("drop", "n"), ("drop", "n")]),
            (1, [("rename", "n", "z"), ("drop", "n")]),
            (1, [("rename", "n", "z"), ("rename", "m", "z")]),
            (1, [("copy", "n", "z"), ("copy", "m", "z")]),
            (1, [("put", "z", "code", 1), ("sum", "z", ("n",))]),
            (1, [("table", "n", "word", (), ("a",)), ("scale", "n", 1, 1)]),
            (1, [("table", "n", "word", (), ("a",)), ("case", "n", 1, (), ())]),
            (1, [("table", "w", "code", (), (1,)), ("join", "z", (("field", "w"),))]),
            (1, [("sum", "z", ("n",)), ("case", "z", 1, (), ())]),
            (1, [("sum", "z", ("n",)), ("table", "z", "code", (), (1,))]),
            (1, [("join", "z", (("field", "w"),)), ("table", "z", "word", (), ("a",))]),
            (2, [SAME, SAME, ("drop", "z"), ("drop", "y")]),
        ):
            assert_refused(self, FORM, steps, at)

    def test_within_a_case_the_place_of_the_case(self):
        for step in [*BAD[::5], *NO_STEPS]:
            for side in ([step], (step,), [SAME, SAME, step], [SAME, step, SAME]):
                assert_refused(self, FORM, [("case", "n", 1, side, ())], 0)
                assert_refused(self, FORM, [SAME, ("case", "n", 1, [], side), SAME], 1)
                assert_refused(self, FORM, [SAME, SAME, ("case", "w", "a", side, side)], 2)
                deep = ("case", "w", "a", (), [SAME, ("case", "n", 2, [SAME, ("case", "n", 3, side, side)], ())])
                assert_refused(self, FORM, [SAME, SAME, SAME, deep], 3)

    def test_a_side_sees_only_its_own_steps(self):
        assert_refused(self, FORM, [("case", "n", 1, [("put", "z", "code", 1)], [("drop", "z")])], 0)
        assert_refused(self, FORM, [("case", "n", 1, [("drop", "n")], [("drop", "n"), ("drop", "n")])], 0)


class ManyFieldsTest(unittest.TestCase):
    def test_more_than_six_amid(self):
        copies = [("copy", "n", name) for name in "abcdefgh"]
        for many in range(9):
            drops = [("drop", name) for name in "abcdefgh"[:many]]
            self.assertEqual(form_behind(FORM, copies[:many] + drops), FORM)
            steps = copies[:many]
            if many <= 2:
                self.assertEqual(len(form_behind(FORM, steps)), 4 + many)
            else:
                assert_refused(self, FORM, steps, many)
                assert_refused(self, FORM, tuple(steps), many)

    def test_none_amid(self):
        drops = [("drop", name) for name in "nmwt"]
        assert_refused(self, FORM, drops, 4)
        self.assertEqual(form_behind(FORM, drops + [("put", "z", "word", "a")]), (("z", "word"),))
        self.assertEqual(form_behind(FORM, [*drops, ("put", "n", "word", "a")]), (("n", "word"),))
        assert_refused(self, (("a", "text"),), [("drop", "a")], 1)
        assert_refused(self, FORM, drops + [("drop", "n")], 4)

    def test_a_step_that_does_not_fit_goes_ahead(self):
        copies = [("copy", "n", name) for name in "abcde"]
        assert_refused(self, FORM, copies + [("drop", "z")], 5)
        assert_refused(self, FORM, copies + [None, SAME], 5)

    def test_at_the_ends_of_sides(self):
        copies = [("copy", "n", name) for name in "abcde"]
        case = ("case", "n", 1, copies, tuple(reversed(copies)))
        assert_refused(self, FORM, [case], 1)
        assert_refused(self, FORM, [SAME, case, SAME], 3)
        self.assertEqual(len(form_behind(FORM, [case, ("drop", "n"), ("drop", "m"), ("drop", "w")])), 6)
        drops = [("drop", name) for name in "nmwt"]
        case = ("case", "n", 1, drops, tuple(reversed(drops)))
        assert_refused(self, FORM, [case], 1)
        self.assertEqual(form_behind(FORM, [case, ("put", "z", "code", 1)]), (("z", "code"),))

    def test_a_case_within_sides_of_many_fields(self):
        copies = tuple(("copy", "n", name) for name in "abcde")
        inner = ("case", "n", 2, (), ())
        case = ("case", "n", 1, (*copies, inner), (*copies, inner))
        self.assertEqual(form_behind(FORM, [case, *[("drop", name) for name in "abcde"]]), FORM)


class CaseTest(unittest.TestCase):
    def test_cases_within_cases_as_lists_and_as_tuples(self):
        for kind in (list, tuple):
            for other in (list, tuple):
                third = ("case", "w", "x", other([("scale", "n", 3, 0)]), kind([]))
                second = ("case", "n", 2, kind([third]), other([("scale", "n", 2, 0)]))
                first = ("case", "w", "x", other([second, ("scale", "n", 1, 1)]), kind([third]))
                for steps in (kind([first]), other([SAME, first])):
                    self.assertEqual(form_behind(FORM, steps), FORM)
                    for n, w, wanted in ((2, "x", 7), (3, "x", 7), (2, "y", 2), (0, "x", 1), (9, "y", 9)):
                        self.assertEqual(done(FORM, steps, (n, 0, w, "")), (wanted, 0, w, ""))

    def test_more_cases_within_cases(self):
        case = SAME
        for depth in range(12):
            case = ("case", "n", depth, [case], [])
        self.assertEqual(form_behind(FORM, [case]), FORM)

    def test_the_order_that_yes_leaves(self):
        yes = [("put", "y", "code", 1), ("put", "z", "code", 2), ("rename", "n", "x")]
        no = [("rename", "n", "x"), ("put", "z", "code", 3), ("put", "y", "code", 4)]
        form = (N, W)
        self.assertEqual(
            form_behind(form, [("case", "n", 1, yes, no)]),
            (("x", "code"), ("w", "word"), ("y", "code"), ("z", "code")))
        self.assertEqual(
            form_behind(form, [("case", "n", 1, no, yes)]),
            (("x", "code"), ("w", "word"), ("z", "code"), ("y", "code")))
        for n, by_yes, by_no in ((1, (1, "a", 1, 2), (1, "a", 3, 4)), (0, (0, "a", 4, 3), (0, "a", 2, 1))):
            self.assertEqual(done(form, [("case", "n", 1, yes, no)], (n, "a")), by_yes)
            self.assertEqual(done(form, [("case", "n", 1, no, yes)], (n, "a")), by_no)

    def test_orders_of_cases_within_cases(self):
        swap = [("drop", "m"), ("sum", "m", ("n",))]
        inner = ("case", "n", 1, swap, [])
        self.assertEqual(form_behind(FORM, [("case", "w", "a", [inner], [])]), (N, W, T, M))
        self.assertEqual(form_behind(FORM, [("case", "w", "a", [], [inner])]), FORM)
        for n, w, wanted in ((1, "a", (1, "a", "", 1)), (2, "a", (2, "a", "", 5)), (1, "b", (1, "b", "", 5))):
            self.assertEqual(done(FORM, [("case", "w", "a", [inner], [])], (n, 5, w, "")), wanted)


class DoneTest(unittest.TestCase):
    def test_each_word(self):
        for step, behind in (
            (("rename", "n", "z"), VALUES),
            (("copy", "t", "z"), (*VALUES, "A b")),
            (("drop", "m"), (3, "ab", "A b")),
            (("put", "z", "text", 'q"'), (*VALUES, 'q"')),
            (("put", "z", "code", 0), (*VALUES, 0)),
            (("scale", "n", 2, 1), (7, -5, "ab", "A b")),
            (("scale", "m", -3, -4), (3, 11, "ab", "A b")),
            (("scale", "n", 0, 5), (5, -5, "ab", "A b")),
            (("sum", "z", ("n",)), (*VALUES, 3)),
            (("sum", "z", ("n", "m", "n", "n", "m", "n")), (*VALUES, 2)),
            (("join", "z", (("say", "- 9"),)), (*VALUES, "- 9")),
            (("join", "z", (("field", "w"), ("say", " "), ("field", "t"), ("field", "w"))), (*VALUES, "ab A bab")),
            (("join", "z", (("field", "t"), ("say", "n"))), (*VALUES, "A bn")),
            (("table", "n", "code", ((1, 2), (3, 9)), None), (9, -5, "ab", "A b")),
            (("table", "n", "code", ((1, 2), (9, 3)), None), VALUES),
            (("table", "n", "code", ((1, 2), (9, 3)), (0,)), (0, -5, "ab", "A b")),
            (("table", "n", "code", ((3, 1), (1, 7)), None), (1, -5, "ab", "A b")),
            (("table", "n", "word", ((3, "x"),), ("y",)), ("x", -5, "ab", "A b")),
            (("table", "n", "word", ((2, "x"),), ("y",)), ("y", -5, "ab", "A b")),
            (("table", "w", "code", (("x", 1), ("ab", 2)), (3,)), (3, -5, 2, "A b")),
            (("table", "w", "word", (("x", "ab"),), None), VALUES),
            (("table", "w", "word", (), ("q",)), (3, -5, "q", "A b")),
            (("case", "n", 3, [("scale", "n", 2, 0)], [("scale", "n", 5, 0)]), (6, -5, "ab", "A b")),
            (("case", "n", 2, [("scale", "n", 2, 0)], [("scale", "n", 5, 0)]), (15, -5, "ab", "A b")),
            (("case", "w", "ab", [("scale", "n", 2, 0)], ()), (6, -5, "ab", "A b")),
            (("case", "w", "a", [("scale", "n", 2, 0)], ()), VALUES),
        ):
            for steps in ([step], (step,)):
                told = done(FORM, steps, VALUES)
                self.assertEqual(told, behind, step)
                self.assertIs(type(told), tuple)

    def test_no_steps(self):
        self.assertEqual(done(FORM, [], VALUES), VALUES)

    def test_a_case_asks_once(self):
        step = ("case", "n", 3, [("scale", "n", 0, 1)], [("scale", "n", 0, 3)])
        self.assertEqual(done(FORM, [step], VALUES)[0], 1)
        self.assertEqual(done(FORM, [step, step], VALUES)[0], 3)

    def test_fields_keep_their_order_and_new_ones_come_last(self):
        steps = [("drop", "n"), ("put", "n", "word", "q"), ("rename", "w", "v"), ("copy", "m", "c")]
        self.assertEqual(form_behind(FORM, steps), (M, ("v", "word"), T, ("n", "word"), ("c", "amount")))
        self.assertEqual(done(FORM, steps, VALUES), (-5, "ab", "A b", "q", -5))

    def test_values_behind_need_not_fit(self):
        form = (("t", "text"), ("n", "amount"))
        steps = [("join", "u", (("field", "t"),) * 8), ("scale", "n", 10 ** 14, 0), ("scale", "n", 10 ** 14, 1)]
        made = done(form, steps, ("x" * 40, 7))
        self.assertEqual(made, ("x" * 40, 7 * 10 ** 28 + 1, "x" * 320))
        self.assertFalse(fits(form_behind(form, steps), made))

    def test_values_that_do_not_fit_are_led_on(self):
        form = (("t", "text"), ("n", "code"))
        steps = [("join", "u", (("say", "a"), ("field", "t"))), ("case", "n", 1, [], []), ("scale", "n", 2, 0)]
        self.assertEqual(done(form, steps, ("x" * 300, 10 ** 30)), ("x" * 300, 2 * 10 ** 30, "a" + "x" * 300))

    def test_steps_by_chance(self):
        chance = random.Random(15)
        many = 0
        for _ in range(600):
            form = some_form(chance)
            steps, fields = some_steps(chance, form, 8, 3)
            if 1 <= len(fields) <= 6:
                many += 1
                for _ in range(5):
                    values = some_values(chance, form)
                    held, _ = run(form, steps, values)
                    self.assertEqual(done(form, steps, values), tuple(held[name] for name, _ in fields))
        self.assertGreater(many, 300)


class StaysTest(unittest.TestCase):
    def test_what_is_handed_in_stays(self):
        chance = random.Random(16)
        for _ in range(100):
            form = some_form(chance)
            steps, fields = some_steps(chance, form, 8, 3)
            as_ahead = copy.deepcopy(steps)
            if 1 <= len(fields) <= 6:
                done(form, steps, some_values(chance, form))
                form_behind(form, steps)
            else:
                assert_refused(self, form, steps, len(steps))
            self.assertEqual(repr(steps), repr(as_ahead))

    def test_a_refusal_leaves_what_is_handed_in(self):
        steps = [("case", "n", 1, [SAME, ["drop", "n"]], []), ["drop", "n"]]
        assert_refused(self, FORM, steps, 0)
        self.assertEqual(steps, [("case", "n", 1, [SAME, ["drop", "n"]], []), ["drop", "n"]])

    def test_the_same_is_told_again(self):
        steps = [("case", "n", 3, [("drop", "m")], [("drop", "m")])]
        told = form_behind(FORM, steps)
        steps[0][3].append(("drop", "w"))
        steps[0][4].append(("drop", "w"))
        self.assertEqual(told, (N, W, T))
        self.assertEqual(form_behind(FORM, steps), (N, T))
        self.assertEqual(form_behind(FORM, [("drop", "m")]), told)


class InterfaceTest(unittest.TestCase):
    def test_arguments_by_names(self):
        self.assertEqual(form_behind(form=FORM, steps=[("drop", "n")]), (M, W, T))
        self.assertEqual(done(form=FORM, steps=[("drop", "n")], values=VALUES), VALUES[1:])

    def test_defined_in_their_file(self):
        for function in (form_behind, done):
            self.assertEqual(function.__module__, module.__name__)


def assert_refused(test, form, steps, at):
    with test.assertRaises(BadStep, msg=repr(steps)) as caught:
        form_behind(form, steps)
    test.assertEqual(caught.exception.at, at, steps)


if __name__ == "__main__":
    unittest.main()
