"""Kinds: versions, upcasts, ways, and values raised by them. [19]"""

import copy
import inspect
import random
import unittest

from eventledger import kinds as module
from eventledger.agreeing import agreement
from eventledger.errors import Backward, BadName, BadStep, NoKind, NoVersion, NoWay, Strange, Twice, Unlike, WrongEnd
from eventledger.forms import fits
from eventledger.kinds import Kinds
from eventledger.steps import done, form_behind
from making import run, some_form, some_steps_to_a_form, some_values

PLAIN = (("n", "code"), ("w", "word"))
SWAPPED = (("w", "word"), ("n", "code"))
LONGER = (("n", "code"), ("w", "word"), ("t", "text"))
STRANGERS = (None, True, 0, -1, 5, "X", "", b"ab", (), [], {}, [("n", "code")], object())


class Hostile:
    """Nothing may be asked of it."""

    __hash__ = None

    def __eq__(self, other):
        raise AssertionError

    def __len__(self):
        raise AssertionError


def line(many, form=PLAIN):
    """Kinds with one kind, of so many versions of one form."""
    kinds = Kinds()
    for _ in range(many):
        kinds.form("a", form)
    return kinds


def plus(number):
    return [("scale", "n", 1, number)]


def caught(test, refusal, function, *arguments, **more):
    """The fields of the refusal, which must be of just this class."""
    with test.assertRaises(refusal) as found:
        function(*arguments, **more)
    test.assertIs(type(found.exception), refusal)
    return vars(found.exception)


class FormTest(unittest.TestCase):
    def test_versions_count_from_one_on(self):
        kinds = Kinds()
        self.assertEqual([kinds.form("a", PLAIN), kinds.form("b", LONGER), kinds.form("a", LONGER)], [1, 1, 2])
        self.assertEqual([kinds.form("a", PLAIN), kinds.form("abcdefghijkl", PLAIN)], [3, 1])
        self.assertEqual([kinds.versions(kind) for kind in ("a", "b", "abcdefghijkl")], [3, 1, 1])
        self.assertEqual([kinds.form_of("a", version) for version in (1, 2, 3)], [PLAIN, LONGER, PLAIN])
        self.assertEqual(kinds.form_of("b", 1), LONGER)

    def test_others_have_no_versions(self):
        kinds = line(2)
        for kind in ("b", "aa", "A", "", None, 1, True, ("a",), [], {}, Hostile()):
            self.assertEqual(kinds.versions(kind), 0)
        self.assertEqual(Kinds().versions("a"), 0)

    def test_names(self):
        kinds = Kinds()
        for kind in ("", "A", "a1", "a b", "abcdefghijklm", "\u00e4", "a\n", *STRANGERS, Hostile()):
            self.assertEqual(caught(self, BadName, kinds.form, kind, PLAIN), {})
            self.assertEqual(kinds.versions(kind), 0)

    def test_forms(self):
        kinds = line(1)
        for form in (
            (), list(PLAIN), (("n", "code"), ("n", "word")), (("n", "number"),), (("N", "code"),), (["n", "code"],),
            tuple((name, "code") for name in "abcdefg"), *STRANGERS, Hostile(),
        ):
            for kind in ("a", "b"):
                self.assertEqual(caught(self, Strange, kinds.form, kind, form), {})
        self.assertEqual((kinds.versions("a"), kinds.versions("b")), (1, 0))
        caught(self, NoKind, kinds.form_of, "b", 1)

    def test_a_name_goes_ahead_of_a_form(self):
        caught(self, BadName, Kinds().form, "A", ())

    def test_form_of(self):
        kinds = line(2)
        for kind in ("b", "", *STRANGERS, Hostile()):
            fields = caught(self, NoKind, kinds.form_of, kind, 7)
            self.assertIs(fields["kind"], kind)
        for version in (0, 3, -1, 10 ** 15):
            self.assertEqual(caught(self, NoVersion, kinds.form_of, "a", version), {"kind": "a", "version": version})
        for version in (True, None, "1", (1,)):
            caught(self, NoVersion, kinds.form_of, "a", version)


class RaisedTest(unittest.TestCase):
    def test_to_itself(self):
        kinds = line(2)
        self.assertEqual(kinds.raised("a", 1, (3, "x"), to=1), (3, "x"))
        self.assertEqual(kinds.raised("a", 2, (3, "x")), (3, "x"))

    def test_by_one_upcast(self):
        kinds = line(2)
        kinds.upcast("a", 1, 2, plus(5))
        self.assertEqual(kinds.raised("a", 1, (3, "x"), to=2), (8, "x"))
        self.assertEqual(kinds.raised("a", 1, (3, "x")), (8, "x"))
        self.assertIs(type(kinds.raised("a", 1, (3, "x"))), tuple)

    def test_by_several(self):
        kinds = line(5)
        for start, end, number in ((2, 3, 10), (1, 2, 1), (3, 5, 100)):
            kinds.upcast("a", start, end, plus(number))
        self.assertEqual([kinds.raised("a", 1, (0, "x"), to=to)[0] for to in (1, 2, 3, 5)], [0, 1, 11, 111])
        self.assertEqual([kinds.raised("a", version, (0, "x"))[0] for version in (1, 2, 3, 5)], [111, 110, 100, 0])
        self.assertEqual(caught(self, NoWay, kinds.raised, "a", 1, (0, "x"), to=4), {"early": 1, "late": 4})
        self.assertEqual(caught(self, NoWay, kinds.raised, "a", 4, (0, "x")), {"early": 4, "late": 5})

    def test_the_newest_where_none_is_told(self):
        kinds = line(2)
        kinds.upcast("a", 1, 2, plus(5))
        kinds.form("a", PLAIN)
        self.assertEqual(caught(self, NoWay, kinds.raised, "a", 1, (0, "x")), {"early": 1, "late": 3})
        self.assertEqual(caught(self, NoWay, kinds.raised, "a", 1, (0, "x"), to=None), {"early": 1, "late": 3})
        kinds.upcast("a", 2, 3, plus(7))
        self.assertEqual(kinds.raised("a", 1, (0, "x")), (12, "x"))

    def test_in_the_order_of_the_form(self):
        kinds = Kinds()
        for form in (PLAIN, SWAPPED, (("t", "text"), *PLAIN)):
            kinds.form("a", form)
        kinds.upcast("a", 1, 2, plus(1))
        kinds.upcast("a", 2, 3, [("put", "t", "text", "T"), *plus(2)])
        self.assertEqual(kinds.raised("a", 1, (3, "x"), to=2), ("x", 4))
        self.assertEqual(kinds.raised("a", 1, (3, "x")), ("T", 6, "x"))
        self.assertEqual(kinds.raised("a", 2, ("x", 3)), ("T", 5, "x"))

    def test_what_the_later_form_is_not_fit_by(self):
        kinds = Kinds()
        for _ in range(3):
            kinds.form("a", (("n", "code"), ("t", "text")))
        twice = [("join", "z", (("field", "t"), ("field", "t"))), ("drop", "t"), ("rename", "z", "t"),
                 ("scale", "n", 10 ** 15 - 1, 0)]
        kinds.upcast("a", 1, 2, twice)
        kinds.upcast("a", 2, 3, twice)
        self.assertEqual(kinds.raised("a", 1, (2, "xy" * 20)), (2 * (10 ** 15 - 1) ** 2, "xy" * 80))

    def test_to_an_earlier_version(self):
        kinds = line(3)
        kinds.upcast("a", 1, 3, [])
        self.assertEqual(caught(self, NoWay, kinds.raised, "a", 3, (0, "x"), to=1), {"early": 3, "late": 1})

    def test_strange_values(self):
        kinds = line(2)
        kinds.upcast("a", 1, 2, [])
        for values in ((), (1,), (1, "x", 2), ("x", 1), (True, "x"), (1, ""), (1, "X"), [1, "x"], *STRANGERS,
                       Hostile()):
            for version in (1, 2):
                self.assertEqual(caught(self, Strange, kinds.raised, "a", version, values, to=2), {})

    def test_which_refusal_goes_first(self):
        kinds = line(3)
        self.assertEqual(caught(self, NoKind, kinds.raised, "b", 9, None, to=8), {"kind": "b"})
        self.assertEqual(caught(self, NoVersion, kinds.raised, "a", 4, None, to=8), {"kind": "a", "version": 4})
        self.assertEqual(caught(self, NoVersion, kinds.raised, "a", 0, None), {"kind": "a", "version": 0})
        self.assertEqual(caught(self, NoVersion, kinds.raised, "a", 3, None, to=8), {"kind": "a", "version": 8})
        self.assertEqual(caught(self, NoVersion, kinds.raised, "a", 3, None, to=0), {"kind": "a", "version": 0})
        caught(self, Strange, kinds.raised, "a", 3, None, to=1)
        caught(self, Strange, kinds.raised, "a", 1, None, to=2)
        caught(self, NoWay, kinds.raised, "a", 1, (1, "a"), to=2)


class IsWayTest(unittest.TestCase):
    def test_ways(self):
        kinds = line(5)
        for start, end in ((1, 3), (3, 4), (2, 4)):
            kinds.upcast("a", start, end, [])
        ways = {(start, end) for start in range(1, 6) for end in range(1, 6) if kinds.is_way("a", start, end)}
        self.assertEqual(ways, {(1, 3), (3, 4), (2, 4), (1, 4), *[(version, version) for version in range(1, 6)]})
        self.assertIs(kinds.is_way("a", 1, 4), True)
        self.assertIs(kinds.is_way("a", 4, 1), False)
        self.assertIs(kinds.is_way("a", 5, 5), True)

    def test_refused(self):
        kinds = line(2)
        self.assertEqual(caught(self, NoKind, kinds.is_way, "b", 7, 8), {"kind": "b"})
        caught(self, NoKind, kinds.is_way, Hostile(), 1, 1)
        self.assertEqual(caught(self, NoVersion, kinds.is_way, "a", 7, 8), {"kind": "a", "version": 7})
        self.assertEqual(caught(self, NoVersion, kinds.is_way, "a", 2, 8), {"kind": "a", "version": 8})
        self.assertEqual(caught(self, NoVersion, kinds.is_way, "a", 0, 1), {"kind": "a", "version": 0})


class UpcastTest(unittest.TestCase):
    def test_told_is_none(self):
        self.assertIsNone(line(2).upcast("a", 1, 2, []))

    def test_the_order_of_the_fields_may_be_another_one(self):
        kinds = Kinds()
        kinds.form("a", PLAIN)
        kinds.form("a", SWAPPED)
        kinds.upcast("a", 1, 2, ())
        self.assertEqual(kinds.raised("a", 1, (3, "x")), ("x", 3))

    def test_each_refusal(self):
        kinds = line(3)
        kinds.upcast("a", 1, 2, plus(1))
        self.assertEqual(caught(self, NoKind, kinds.upcast, "b", 1, 2, []), {"kind": "b"})
        caught(self, NoKind, kinds.upcast, Hostile(), 1, 2, [])
        for start, end, version in ((0, 2, 0), (4, 2, 4), (1, 4, 4), (1, -1, -1), (4, 5, 4), (1, True, True)):
            fields = caught(self, NoVersion, kinds.upcast, "a", start, end, [])
            self.assertEqual(fields, {"kind": "a", "version": version})
        for start, end in ((1, 1), (2, 1), (3, 1), (3, 3)):
            self.assertEqual(caught(self, Backward, kinds.upcast, "a", start, end, []), {})
        for steps in (plus(1), plus(2), []):
            self.assertEqual(caught(self, Twice, kinds.upcast, "a", 1, 2, steps), {})
        for steps, at in (([("drop", "z")], 0), ([("drop", "n"), ("drop", "n")], 1), (None, 0), (Hostile(), 0),
                          ([("drop", "n"), ("drop", "w")], 2), ([Hostile()], 0), ([*plus(1), 5], 1)):
            self.assertEqual(caught(self, BadStep, kinds.upcast, "a", 1, 3, steps), {"at": at})
        for steps in ([("drop", "n")], [("rename", "n", "z")], [("copy", "n", "z")],
                      [("sum", "z", ("n",)), ("drop", "n"), ("rename", "z", "n")]):
            self.assertEqual(caught(self, WrongEnd, kinds.upcast, "a", 1, 3, steps), {})

    def test_which_goes_first(self):
        kinds = line(3)
        kinds.upcast("a", 1, 2, [])
        caught(self, NoKind, kinds.upcast, "b", 2, 2, None)
        caught(self, NoVersion, kinds.upcast, "a", 4, 4, None)
        self.assertEqual(caught(self, NoVersion, kinds.upcast, "a", 3, 0, None)["version"], 0)
        caught(self, Backward, kinds.upcast, "a", 2, 1, None)
        caught(self, Twice, kinds.upcast, "a", 1, 2, None)
        caught(self, Twice, kinds.upcast, "a", 1, 2, [("drop", "n")])
        caught(self, BadStep, kinds.upcast, "a", 1, 3, [("drop", "n"), ("drop", "n")])
        kinds.upcast("a", 2, 3, [])
        caught(self, WrongEnd, kinds.upcast, "a", 1, 3, [("drop", "n")])
        caught(self, Unlike, kinds.upcast, "a", 1, 3, plus(1))

    def test_two_ways_that_agree(self):
        kinds = line(3)
        kinds.upcast("a", 1, 2, plus(1))
        kinds.upcast("a", 2, 3, plus(2))
        kinds.upcast("a", 1, 3, plus(3))
        self.assertEqual(kinds.raised("a", 1, (0, "x")), (3, "x"))

    def test_two_ways_that_part(self):
        for first, second, third in (((1, 2), (2, 3), (1, 3)), ((1, 3), (1, 2), (2, 3)), ((1, 3), (2, 3), (1, 2))):
            kinds = line(3)
            kinds.upcast("a", *first, plus(1))
            kinds.upcast("a", *second, plus(1))
            fields = caught(self, Unlike, kinds.upcast, "a", *third, plus(5))
            self.assertEqual((fields["version"], fields["late"]), (1, 3))
            self.assertTrue(fits(PLAIN, fields["witness"]))

    def test_ways_that_part_by_one_value(self):
        kinds = line(3)
        kinds.upcast("a", 1, 2, plus(1))
        kinds.upcast("a", 2, 3, [])
        steps = [*plus(1), ("case", "n", 8, [("table", "w", "word", (("odd", "even"),), None)], [])]
        self.assertEqual(caught(self, Unlike, kinds.upcast, "a", 1, 3, steps),
                         {"version": 1, "late": 3, "witness": (7, "odd")})

    def test_the_least_version_then_the_least_later_one(self):
        kinds = line(6)
        for start, end in ((1, 2), (2, 3), (3, 4), (4, 5), (5, 6)):
            kinds.upcast("a", start, end, [])
        self.assertEqual(two_of(caught(self, Unlike, kinds.upcast, "a", 3, 5, plus(1))), (1, 5))
        self.assertEqual(two_of(caught(self, Unlike, kinds.upcast, "a", 2, 6, plus(1))), (1, 6))
        kinds = line(6)
        for start, end in ((2, 3), (3, 4), (4, 5), (5, 6), (1, 6)):
            kinds.upcast("a", start, end, [])
        self.assertEqual(two_of(caught(self, Unlike, kinds.upcast, "a", 3, 5, plus(1))), (2, 5))
        self.assertEqual(two_of(caught(self, Unlike, kinds.upcast, "a", 1, 4, plus(1))), (1, 6))

    def test_the_least_later_one_by_ways_of_several(self):
        kinds = line(6)
        for start, end in ((1, 5), (1, 6), (3, 6), (3, 4), (4, 5)):
            kinds.upcast("a", start, end, [])
        self.assertEqual(two_of(caught(self, Unlike, kinds.upcast, "a", 1, 3, plus(1))), (1, 5))

    def test_a_part_that_a_later_upcast_takes_back(self):
        # From 1 to 3 the ways part, from 1 to 4 they don't, and the other way round.
        zero = [("scale", "n", 0, 0)]
        kinds = line(4)
        kinds.upcast("a", 1, 2, [])
        kinds.upcast("a", 2, 4, zero)
        kinds.upcast("a", 3, 4, zero)
        kinds.upcast("a", 1, 3, plus(9))
        self.assertEqual(two_of(caught(self, Unlike, kinds.upcast, "a", 2, 3, [])), (1, 3))
        kinds = line(4)
        kinds.upcast("a", 1, 2, zero)
        kinds.upcast("a", 2, 4, [])
        kinds.upcast("a", 1, 3, zero)
        kinds.upcast("a", 3, 4, [])
        self.assertEqual(two_of(caught(self, Unlike, kinds.upcast, "a", 2, 3, plus(1))), (1, 3))
        # Of version 1 all values are as one, so the least that shows it is 2.
        kinds = line(4)
        kinds.upcast("a", 1, 2, zero)
        kinds.upcast("a", 2, 4, [])
        kinds.upcast("a", 3, 4, [])
        self.assertEqual(two_of(caught(self, Unlike, kinds.upcast, "a", 2, 3, [("scale", "n", 2, 0)])), (2, 4))

    def test_a_witness_that_comes_behind_the_start(self):
        kinds = line(4)
        kinds.upcast("a", 2, 3, [])
        kinds.upcast("a", 3, 4, [])
        kinds.upcast("a", 1, 2, [("scale", "n", 2, 0)])
        kinds.upcast("a", 1, 4, [("scale", "n", 2, 0)])
        odd = [("case", "n", 7, [("scale", "n", 0, 0)], [])]
        self.assertEqual(two_of(caught(self, Unlike, kinds.upcast, "a", 2, 4, odd)), (2, 4))
        even = [("case", "n", 8, [("scale", "n", 0, 0)], [])]
        fields = caught(self, Unlike, kinds.upcast, "a", 2, 4, even)
        self.assertEqual((two_of(fields), fields["witness"][0]), ((1, 4), 4))

    def test_texts_that_are_too_long_on_the_way(self):
        form = (("t", "text"), ("u", "text"))
        kinds = line(3, form)
        long = [("join", "z", (("field", "t"),) * 8), ("drop", "t"), ("rename", "z", "t")]
        kinds.upcast("a", 1, 2, long)
        kinds.upcast("a", 2, 3, [("join", "z", (("field", "t"), ("field", "u"))), ("drop", "u"), ("rename", "z", "u")])
        other = [("join", "z", (*(("field", "t"),) * 7, ("field", "u"))), ("drop", "u"), ("rename", "z", "u"), *long]
        caught(self, Unlike, kinds.upcast, "a", 1, 3, other)
        right = [*long, ("join", "z", (("field", "t"), ("field", "u"))), ("drop", "u"), ("rename", "z", "u")]
        kinds.upcast("a", 1, 3, right)
        self.assertEqual(kinds.raised("a", 1, ("ab", "c")), ("ab" * 8, "ab" * 8 + "c"))

    def test_upcasts_by_chance(self):
        chance = random.Random(41)
        found = {"let in": 0, "refused": 0}
        while min(found.values()) < 60:
            self.history(chance, found)

    def history(self, chance, found):
        form = some_form(chance)
        many = chance.randint(3, 5)
        kinds, forms, upcasts = Kinds(), {}, {}
        for version in range(1, many + 1):
            forms[version] = tuple(chance.sample(form, len(form)))
            kinds.form("a", forms[version])
        pairs = [(start, end) for start in forms for end in forms if start < end]
        chance.shuffle(pairs)
        for start, end in pairs[:6]:
            steps = some_upcast(chance, form, start, end)
            wanted = first_apart(forms, {**upcasts, (start, end): steps})
            if wanted is None:
                kinds.upcast("a", start, end, steps)
                upcasts[(start, end)] = steps
                found["let in"] += 1
            else:
                fields = caught(self, Unlike, kinds.upcast, "a", start, end, steps)
                self.assertEqual(two_of(fields), wanted)
                made = made_by_all(forms, {**upcasts, (start, end): steps}, *wanted, fields["witness"])
                self.assertGreater(len(made), 1)
                self.assertTrue(fits(forms[wanted[0]], fields["witness"]))
                found["refused"] += 1
            self.assert_raises_as_all_ways(chance, kinds, forms, upcasts)

    def assert_raises_as_all_ways(self, chance, kinds, forms, upcasts):
        for version in forms:
            values = some_values(chance, forms[version])
            for late in forms:
                made = made_by_all(forms, upcasts, version, late, values)
                self.assertEqual(kinds.is_way("a", version, late), bool(made))
                if made:
                    self.assertEqual([kinds.raised("a", version, values, to=late)], made)
                else:
                    caught(self, NoWay, kinds.raised, "a", version, values, to=late)


class StaysTest(unittest.TestCase):
    def test_what_is_refused_changes_nothing(self):
        kinds = line(3)
        kinds.upcast("a", 1, 2, plus(1))
        kinds.upcast("a", 2, 3, plus(1))
        for arguments in (("b", 1, 2, []), ("a", 0, 2, []), ("a", 2, 1, []), ("a", 1, 2, []), ("a", 1, 3, [5]),
                          ("a", 1, 3, [("drop", "n")]), ("a", 1, 3, plus(5))):
            with self.assertRaises(Exception):
                kinds.upcast(*arguments)
            self.assertEqual(kinds.raised("a", 1, (0, "x")), (2, "x"))
            self.assertEqual((kinds.versions("a"), kinds.versions("b")), (3, 0))
        kinds.upcast("a", 1, 3, plus(2))
        kinds.form("a", PLAIN)
        kinds.upcast("a", 3, 4, plus(1))
        caught(self, Unlike, kinds.upcast, "a", 1, 4, plus(0))
        self.assertEqual(kinds.raised("a", 1, (0, "x")), (3, "x"))

    def test_two_side_by_side(self):
        one, other = line(2), line(1)
        one.upcast("a", 1, 2, plus(1))
        self.assertEqual(other.versions("a"), 1)
        other.form("a", PLAIN)
        self.assertFalse(other.is_way("a", 1, 2))
        other.upcast("a", 1, 2, plus(2))
        self.assertEqual(one.raised("a", 1, (0, "x")), (1, "x"))
        self.assertEqual(other.raised("a", 1, (0, "x")), (2, "x"))

    def test_handed_in_lists_changed_behind(self):
        yes, no = [("scale", "n", 1, 1)], [("scale", "n", 1, 2)]
        inner = [("case", "w", "a", yes, no)]
        steps = [("case", "n", 0, inner, inner), ("scale", "n", 1, 0)]
        handed = copy.deepcopy(steps)
        kinds = line(2)
        kinds.upcast("a", 1, 2, steps)
        self.assertEqual(steps, handed)
        yes.append(("drop", "n"))
        no.clear()
        inner.clear()
        steps.clear()
        self.assertEqual(kinds.raised("a", 1, (0, "a")), (1, "a"))
        self.assertEqual(kinds.raised("a", 1, (0, "b")), (2, "b"))
        self.assertEqual(kinds.raised("a", 1, (5, "b")), (7, "b"))

    def test_the_interface(self):
        self.assertEqual(Kinds.__module__, module.__name__)
        wanted = {
            "form": "(self, kind, form)", "upcast": "(self, kind, start, end, steps)", "versions": "(self, kind)",
            "form_of": "(self, kind, version)", "raised": "(self, kind, version, values, *, to=None)",
            "is_way": "(self, kind, start, end)",
        }
        for name, told in wanted.items():
            self.assertEqual(str(inspect.signature(vars(Kinds)[name])), told)

    def test_by_names(self):
        kinds = Kinds()
        self.assertEqual(kinds.form(form=PLAIN, kind="a"), 1)
        kinds.form(kind="a", form=PLAIN)
        kinds.upcast(kind="a", start=1, end=2, steps=plus(1))
        self.assertEqual(kinds.versions(kind="a"), 2)
        self.assertEqual(kinds.form_of(kind="a", version=2), PLAIN)
        self.assertEqual(kinds.raised(kind="a", version=1, values=(1, "x"), to=2), (2, "x"))
        self.assertTrue(kinds.is_way(kind="a", start=1, end=2))


def two_of(fields):
    return (fields["version"], fields["late"])


def some_upcast(chance, form, start, end):
    """Steps that leave the fields of the form: mostly such as agree with others of their kind."""
    numbers = [field for field, sort in form if sort in ("code", "amount")]
    words = [field for field, sort in form if sort == "word"]
    steps = [("scale", field, 1, end - start) for field in numbers]
    if chance.random() < 0.3 and words:
        steps.append(("table", words[0], "word", (("a", chance.choice(("a", "b"))),), None))
    if chance.random() < 0.3 and numbers:
        steps.append(("scale", numbers[0], 1, chance.choice((0, 0, 1))))
    if chance.random() < 0.3 and numbers:
        steps[0] = ("scale", numbers[0], 0, end)
    if chance.random() < 0.4:
        field, sort = chance.choice(form)
        steps += [("copy", field, "zz"), ("drop", field), ("rename", "zz", field)]
    return steps


def all_ways(upcasts, version, late):
    """All ways, each the upcasts that it goes by, in order."""
    if version == late:
        return [[]]
    return [[pair, *rest] for pair in upcasts if pair[0] == version for rest in all_ways(upcasts, pair[1], late)]


def made_by_all(forms, upcasts, version, late, values):
    """The unlike values that the ways make, one way's behind the other's."""
    made = []
    for way in all_ways(upcasts, version, late):
        held = dict(zip([field for field, _ in forms[version]], values))
        for start, end in way:
            names = [field for field, _ in forms[start]]
            held, _ = run(forms[start], upcasts[(start, end)], tuple(held[name] for name in names))
        told = tuple(held[field] for field, _ in forms[late])
        if told not in made:
            made.append(told)
    return made


def first_apart(forms, upcasts):
    """The first versions between which two ways part, each way compared with each."""
    for version in forms:
        for late in forms:
            ways = [
                [step for pair in way for step in upcasts[pair]] for way in all_ways(upcasts, version, late)]
            for way in ways[1:]:
                if agreement(forms[version], ways[0], way)[0] == "differ":
                    return (version, late)
    return None


class OracleTest(unittest.TestCase):
    def test_ways_put_together_are_as_one_behind_the_other(self):
        chance = random.Random(42)
        for _ in range(100):
            form = some_form(chance)
            one, middle = some_steps_to_a_form(chance, form, 4, 2)
            other, _ = some_steps_to_a_form(chance, middle, 4, 2)
            steps = [*one, *other]
            values = some_values(chance, form)
            self.assertEqual(form_behind(form, steps), form_behind(middle, other))
            self.assertEqual(done(form, steps, values), done(middle, other, done(form, one, values)))


if __name__ == "__main__":
    unittest.main()
