"""Carrying over: whether two projections do the same by every event. [24]"""

import copy
import inspect
import itertools
import random
import unittest

from eventledger import carrying as module
from eventledger.carrying import same_deeds
from eventledger.errors import NoWay, OtherCells
from eventledger.forms import fits
from eventledger.kinds import Kinds
from eventledger.projections import deeds_of, need_projection
from making import CODES, some_value
from telling import FORMS, some_kinds, some_projection
from test_kinds import caught

CELLS = (("p", 0), ("q", -5))
FORM = (("n", "code"), ("k", "code"), ("m", "amount"), ("w", "word"), ("v", "word"))
ADD = ("add", "p", ("number", 1))
SUM = ("add", "p", ("field", "m"))
FORGET = ("forget",)


def kinds_of(*upcasts, many=2, form=FORM):
    kinds = Kinds()
    for _ in range(many):
        kinds.form("a", form)
    for start, end, steps in upcasts:
        kinds.upcast("a", start, end, steps)
    return kinds


def by(*rules, version=1, cells=CELLS):
    return ((("a", version),), cells, tuple(("a", *rule) for rule in rules))


class CarryingTest(unittest.TestCase):
    def assert_same(self, one, other, kinds=None):
        for elder, newer in ((one, other), (other, one)):
            self.assertEqual(same_deeds(kinds or kinds_of(), elder, newer), ("same",))

    def assert_differ(self, one, other, kinds=None, version=1, kind="a"):
        kinds = kinds or kinds_of()
        told = []
        for elder, newer in ((one, other), (other, one)):
            answer = same_deeds(kinds, elder, newer)
            self.assertEqual(answer[:3], ("differ", kind, version))
            self.assert_apart(kinds, elder, newer, answer)
            told.append(answer[3])
        return told

    def assert_apart(self, kinds, elder, newer, answer):
        self.assertEqual((type(answer), len(answer)), (tuple, 4))
        event = answer[1:]
        self.assertTrue(fits(kinds.form_of(*event[:2]), event[2]))
        told = [deeds_of(kinds, projection, event) if reads(projection, event[0]) else []
                for projection in (elder, newer)]
        self.assertNotEqual(told[0], told[1])


class SameTest(CarryingTest):
    def test_the_very_same(self):
        for seed in range(60):
            projection = some_projection(random.Random(seed))
            self.assert_same(projection, projection, some_kinds())

    def test_conditions_in_another_order(self):
        conditions = (("n", 1), ("k", 2), ("w", "a"))
        for order in itertools.permutations(conditions):
            self.assert_same(by((conditions, (), (ADD,))), by((order, (), (ADD,))))

    def test_rules_put_in_one_or_taken_apart(self):
        key = (("field", "w"),)
        self.assert_same(by(((), key, (ADD, SUM, ADD))), by(((), key, (ADD,)), ((), key, (SUM, ADD))))
        self.assert_same(by(((), key, (ADD, SUM, ADD))), by(((), key, (ADD,)), ((), key, (SUM,)), ((), key, (ADD,))))
        self.assert_same(by(((), key, (ADD,)), ((), key, (FORGET,)), ((), key, (FORGET,)), ((), key, (SUM,))),
                         by(((), key, (ADD,)), ((), key, (FORGET,)), ((), key, (FORGET,)), ((), key, (SUM,))))

    def test_rules_that_never_hold_or_always_tell_of_one_value(self):
        kinds = kinds_of((1, 2, [("scale", "n", 2, 0)]))
        odd = by(((("n", 3),), (), (ADD,)), version=2)
        # No event of version 1 comes to an odd number, one of version 2 has it.
        self.assertEqual(same_deeds(kinds, odd, by(version=2))[:3], ("differ", "a", 2))
        kinds = kinds_of((1, 2, [("scale", "n", 0, 4)]))
        self.assertEqual(same_deeds(kinds, odd, by(version=2))[:3], ("differ", "a", 2))

    def test_a_field_that_has_the_value(self):
        conditions = (("n", 4), ("w", "a"))
        one = by((conditions, (("field", "n"), ("field", "w")), (("add", "p", ("field", "n")),)))
        other = by((conditions, (("value", 4), ("value", "a")), (("add", "p", ("number", 4)),)))
        self.assert_same(one, other)
        self.assert_same(by((conditions, (("value", 4), ("field", "w")), (("add", "p", ("field", "n")),))), other)

    def test_rules_of_unlike_conditions_in_another_order(self):
        rules = [((("n", value),), (), (("set", "p", ("number", value)),)) for value in (1, 2, 3)]
        for order in itertools.permutations(rules):
            self.assert_same(by(*rules), by(*order))

    def test_fields_behind_upcasts(self):
        kinds = kinds_of((1, 2, [("scale", "m", 100, 0)]))
        elder = by(((), (), (SUM,)), version=2)
        form = tuple(field for field in FORM if field[0] != "m") + (("cents", "amount"),)
        kinds.form("a", form)
        kinds.upcast("a", 2, 3, [("rename", "m", "cents")])
        newer = by(((), (), (("add", "p", ("field", "cents")),)), version=3)
        self.assertEqual(same_deeds(kinds, elder, newer), ("same",))
        # Of version 3 the elder one can't be come to, the newer one is: it is looked at the other way round.
        self.assertEqual(caught(self, NoWay, same_deeds, kinds, newer, elder), {"early": 3, "late": 2})

    def test_copies_of_one_field(self):
        kinds = kinds_of((1, 2, [("drop", "k"), ("copy", "n", "k"), ("drop", "v"), ("copy", "w", "v")]), many=1 + 1)
        one, other = by(((), (("field", "n"),), (ADD,)), version=2), by(((), (("field", "k"),), (ADD,)), version=2)
        self.assert_differ(one, other, kinds, version=2)
        kinds = Kinds()
        for form in (FORM[2:3], FORM[:3]):
            kinds.form("a", form)
        kinds.upcast("a", 1, 2, [("put", "n", "code", 5), ("copy", "n", "k")])
        self.assert_differ(one, other, kinds, version=2)

    def test_reads_of_a_kind_without_rules(self):
        kinds = some_kinds()
        cells = (("p", 0),)
        rule = ("bill", (), (), (("add", "p", ("number", 1)),))
        self.assert_same(((("bill", 2),), cells, (rule,)), ((("bill", 2), ("move", 1)), cells, (rule,)), kinds)
        self.assert_same(((), cells, ()), ((("bill", 2), ("move", 1), ("note", 1)), cells, ()), kinds)
        self.assert_same(((), cells, ()), ((), cells, ()), kinds)


class DifferTest(CarryingTest):
    def test_by_one_value(self):
        for value in (0, 7, -10 ** 14):
            told = self.assert_differ(by(((("n", value),), (), (ADD,))), by())
            self.assertEqual([values[0] for values in told], [value] * 2)
        told = self.assert_differ(
            by(((("n", 1), ("k", 2), ("w", "b")), (), (ADD,))), by(((("n", 1), ("k", 2)), (), (ADD,))))
        for values in told:
            self.assertEqual(values[:2], (1, 2))
            self.assertNotEqual(values[3], "b")

    def test_by_all_but_some(self):
        rules = [((("n", value),), (("value", value),), (ADD,)) for value in (0, 1, 2, 3)]
        one, other = by(*rules, ((), (("field", "n"),), (ADD,))), by(*rules, ((), (("value", 0),), (ADD,)))
        self.assert_differ(one, other)

    def test_by_the_order_of_deeds(self):
        self.assert_differ(by(((), (), (ADD, SUM))), by(((), (), (SUM, ADD))))
        rules = [((), (), (ADD,)), ((("n", 1),), (), (SUM,))]
        self.assert_differ(by(*rules), by(*reversed(rules)))

    def test_by_what_deeds_tell(self):
        sole = by(((), (("field", "w"),), (ADD,)))
        for rule in (
            ((), (("field", "v"),), (ADD,)), ((), (("value", "a"),), (ADD,)), ((), (), (ADD,)),
            ((), (("field", "n"),), (ADD,)),
            ((), (("field", "w"), ("value", 1)), (ADD,)), ((), (("field", "w"),), (("set", "p", ("number", 1)),)),
            ((), (("field", "w"),), (("add", "q", ("number", 1)),)),
            ((), (("field", "w"),), (("add", "p", ("number", 2)),)),
            ((), (("field", "w"),), (("add", "p", ("field", "n")),)), ((), (("field", "w"),), (ADD, ADD)),
            ((), (("field", "w"),), (FORGET,)), ((("k", 3),), (("field", "w"),), (ADD,)),
        ):
            self.assert_differ(sole, by(rule))
        keys = [(("value", 1), ("value", 2)), (("value", 2), ("value", 1))]
        self.assert_differ(by(((), keys[0], (ADD,))), by(((), keys[1], (ADD,))))
        self.assert_differ(by(((), (("value", 1),), (FORGET,))), by(((), (("value", "a"),), (FORGET,))))
        self.assert_differ(by(((), (("field", "n"),), (ADD,))), by(((), (("field", "k"),), (ADD,))))
        self.assert_differ(by(((), (), (("add", "p", ("field", "n")),))), by(((), (), (("add", "p", ("field", "m")),))))

    def test_the_first_version(self):
        kinds = kinds_of((1, 2, [("scale", "n", 0, 0)]), (2, 3, []), many=3)
        told = self.assert_differ(by(((("n", 4),), (), (ADD,)), version=3), by(version=3), kinds, version=2)
        self.assertEqual([values[0] for values in told], [4, 4])
        self.assert_differ(by(((("n", 0),), (), (ADD,)), version=3), by(version=3), kinds, version=1)
        kinds = kinds_of((2, 3, []), many=3)
        self.assert_differ(by(((), (), (ADD,)), version=3), by(version=3), kinds, version=2)

    def test_the_first_kind(self):
        kinds = some_kinds()
        cells = (("p", 0),)
        rules = {kind: (kind, (), (), (("add", "p", ("number", 1)),)) for kind in ("bill", "move", "note")}
        all_read = (("bill", 2), ("move", 1), ("note", 1))
        for left_out, version in (("bill", 1), ("move", 1), ("note", 1)):
            told = tuple(rule for kind, rule in rules.items() if kind != left_out)
            whole = (all_read, cells, tuple(rules.values()))
            self.assert_differ(whole, (all_read, cells, told), kinds, version, left_out)
        self.assert_differ((all_read, cells, tuple(rules.values())), (all_read, cells, ()), kinds, 1, "bill")
        self.assert_differ((all_read[1:], cells, (rules["move"],)), ((), cells, ()), kinds, 1, "move")
        one, other = (all_read[1:], cells, (rules["move"],)), (all_read, cells, (rules["bill"],))
        self.assert_differ(one, other, kinds, 1, "bill")

    def test_a_kind_that_one_alone_reads(self):
        kinds = kinds_of((2, 3, [("scale", "n", 2, 0)]), many=3)
        none = ((), CELLS, ())
        self.assert_same(by(version=3), none, kinds)
        self.assert_differ(by(((("n", 8),), (), (ADD,)), version=3), none, kinds, version=2)
        # No event of version 2 has it, one of version 3 has.
        self.assert_differ(by(((("n", 7),), (), (ADD,)), version=3), none, kinds, version=3)

    def test_projections_by_chance(self):
        chance = random.Random(81)
        kinds = some_kinds()
        found = {"same": 0, "differ": 0, "none": 0}
        while min(found.values()) < 60:
            elder = some_projection(chance, rules=3)
            newer = otherwise(chance, elder)
            need_projection(kinds, newer)
            wanted = looked_at(kinds, elder, newer)
            if isinstance(wanted, int):
                found["none"] += 1
                self.assert_no_way(kinds, elder, newer)
                continue
            answer = same_deeds(kinds, elder, newer)
            found[answer[0]] += 1
            ahead = wanted if answer == ("same",) else wanted[:wanted.index(answer[1:3])]
            if answer != ("same",):
                self.assert_apart(kinds, elder, newer, answer)
            for kind, version in ahead:
                for _ in range(6):
                    values = tuple(some_value(chance, sort) for _, sort in FORMS[(kind, version)])
                    told = [deeds_of(kinds, projection, (kind, version, values)) if reads(projection, kind) else []
                            for projection in (elder, newer)]
                    self.assertEqual(told[0], told[1])

    def assert_no_way(self, kinds, elder, newer):
        """Refused, unless something ahead of it differs."""
        try:
            answer = same_deeds(kinds, elder, newer)
        except NoWay as refusal:
            kinds_read = [kind for kind, late in newer[0] if late == refusal.late and reads(elder, kind)]
            kinds_read = [kind for kind in kinds_read if refusal.early <= kinds.versions(kind)]
            self.assertTrue([kind for kind in kinds_read if kinds.is_way(kind, refusal.early, reads(elder, kind))
                             and not kinds.is_way(kind, refusal.early, refusal.late)])
        else:
            self.assertEqual(answer[0], "differ")
            self.assert_apart(kinds, elder, newer, answer)


class RefusedTest(CarryingTest):
    def test_other_cells(self):
        for cells in ((("p", 0),), (("q", -5), ("p", 0)), (("p", 0), ("q", 5)), (("p", 0), ("r", -5)),
                      (*CELLS, ("r", 0))):
            self.assertEqual(caught(self, OtherCells, same_deeds, kinds_of(), by(), by(cells=cells)), {})
            self.assertEqual(caught(self, OtherCells, same_deeds, kinds_of(), by(cells=cells), by()), {})

    def test_no_way(self):
        kinds = kinds_of((1, 2, []), (1, 3, []), many=3)
        self.assertEqual(caught(self, NoWay, same_deeds, kinds, by(version=2), by(version=3)), {"early": 2, "late": 3})
        self.assertEqual(caught(self, NoWay, same_deeds, kinds, by(version=3), by(version=2)), {"early": 3, "late": 2})
        self.assertEqual(caught(self, NoWay, same_deeds, kinds, by(version=3), by(version=1)), {"early": 3, "late": 1})
        kinds = kinds_of((1, 2, []), many=3)
        self.assertEqual(caught(self, NoWay, same_deeds, kinds, by(version=2), by(version=3)), {"early": 1, "late": 3})
        self.assertEqual(caught(self, NoWay, same_deeds, kinds, by(version=2), by(version=1)), {"early": 2, "late": 1})

    def test_versions_that_only_the_newer_one_can_read(self):
        kinds = kinds_of((1, 3, []), (2, 3, []), many=3)
        self.assertEqual(same_deeds(kinds, by(version=1), by(version=3)), ("same",))
        self.assertEqual(same_deeds(kinds, by(((), (), (ADD,))), by(((), (), (ADD,)), version=3)), ("same",))

    def test_which_goes_first(self):
        kinds = kinds_of((1, 2, []), many=3)
        caught(self, OtherCells, same_deeds, kinds, by(version=2), by(version=3, cells=CELLS[:1]))
        # A difference at version 1 is told ahead of a way that is missing from version 2.
        kinds = kinds_of((1, 2, []), (1, 3, []), many=3)
        self.assertEqual(same_deeds(kinds, by(((), (), (ADD,)), version=2), by(version=3))[:3], ("differ", "a", 1))
        self.assertEqual(caught(self, NoWay, same_deeds, kinds, by(version=2), by(version=3)), {"early": 2, "late": 3})
        for kind in ("b", "c"):
            kinds.form(kind, FORM)
        kinds.form("b", FORM)
        later = ("b", (), (), (ADD,))
        self.assertEqual(
            same_deeds(kinds, ((("a", 3), ("b", 1)), CELLS, (later,)), ((("a", 3), ("b", 1)), CELLS, ()))[:3],
            ("differ", "b", 1))
        self.assertEqual(caught(self, NoWay, same_deeds, kinds, ((("a", 2), ("b", 1)), CELLS, (later,)),
                                ((("a", 3), ("b", 1)), CELLS, ())), {"early": 2, "late": 3})
        self.assertEqual(caught(self, NoWay, same_deeds, kinds, ((("b", 2), ("c", 1)), CELLS, (("c", (), (), (ADD,)),)),
                                ((("b", 1), ("c", 1)), CELLS, ())), {"early": 2, "late": 1})


class InterfaceTest(unittest.TestCase):
    def test_signature(self):
        self.assertEqual(str(inspect.signature(same_deeds)), "(kinds, elder, newer)")
        self.assertEqual(same_deeds.__module__, module.__name__)
        self.assertEqual(same_deeds(newer=by(), elder=by(), kinds=kinds_of()), ("same",))

    def test_what_is_handed_in_stays(self):
        kinds, elder, newer = some_kinds(), some_projection(random.Random(3)), some_projection(random.Random(4))
        newer = (newer[0], elder[1], ())
        kept = copy.deepcopy((elder, newer))
        first = same_deeds(kinds, elder, newer)
        self.assertEqual((elder, newer), kept)
        self.assertEqual(same_deeds(kinds, elder, newer), first)
        self.assertEqual(kinds.versions("bill"), 3)


def reads(projection, kind):
    return dict(projection[0]).get(kind)


def looked_at(kinds, elder, newer):
    """The (kind, version) that are looked at, in order; a number where one is refused."""
    told = []
    for kind in sorted({**dict(elder[0]), **dict(newer[0])}):
        for version in range(1, kinds.versions(kind) + 1):
            first, second = reads(elder, kind), reads(newer, kind)
            if kinds.is_way(kind, version, first or second):
                if first and second and not kinds.is_way(kind, version, second):
                    return 0
                told.append((kind, version))
    return told


def otherwise(chance, projection):
    """A projection with the same cells, much like the other one."""
    read, cells, rules = projection
    rules = list(rules)
    if rules and chance.random() < 0.6:
        at = chance.randrange(len(rules))
        kind, conditions, key, deeds = rules[at]
        bend = chance.randrange(5)
        if bend == 0 and len(deeds) > 1:
            rules[at:at + 1] = [(kind, conditions, key, deeds[:1]), (kind, conditions, key, deeds[1:])]
        elif bend == 1 and conditions:
            field, value = conditions[0]
            rules[at] = (kind, ((field, value if isinstance(value, str) else chance.choice(CODES)),), key, deeds)
        elif bend == 2:
            rules[at] = (kind, conditions, tuple(reversed(key)), deeds)
        elif bend == 3 and conditions:
            field, value = conditions[0]
            swapped = tuple(("value", value) if part == ("field", field) else part for part in key)
            rules[at] = (kind, conditions, swapped, deeds)
        elif bend == 4:
            chance.shuffle(rules)
    if chance.random() < 0.4:
        kinds_read = {rule[0] for rule in rules}
        versions = {kind: [late for name, late in FORMS if name == kind] for kind, _ in read}
        read = tuple((kind, late if kind in kinds_read else chance.choice(versions[kind])) for kind, late in read)
    return (read, cells, tuple(rules))


if __name__ == "__main__":
    unittest.main()
