"""Projections: what is one, what it does by events, and folds. [20] [21]"""

import copy
import inspect
import random
import unittest

from eventledger import projections as module
from eventledger.errors import BadProjection, NoKind, NoVersion, NoWay, Strange, Unread
from eventledger.kinds import Kinds
from eventledger.projections import deeds_of, fold, need_projection
from telling import FORMS, deeds_as_told, some_event, some_events, some_kinds, some_projection, table_as_told
from test_kinds import Hostile, caught

READS = (("bill", 2), ("move", 1))
CELLS = (("p", 0), ("q", -5))
ADD = ("add", "p", ("number", 1))
RULE = ("bill", (("no", 4), ("who", "a")), (("field", "who"), ("value", 7)), (ADD, ("set", "q", ("field", "sum"))))
WHOLE = (READS, CELLS, (RULE,))
ANYTHING = (
    0, 1, -1, True, False, None, "", "a", "bill", "reads", "field", "no", "forget", b"", (), [], {}, (1,), ("a",), [1],
    ("a", 1, 2, 3, 4), {"a": 1}, object(), lambda: 0, Hostile(), ((),), ((1, 2),), ([],), (None, None), ((), (), ()))

NAMES = ("a", "bill", "reads", "field", "no", "forget")


def rule(kind="bill", conditions=(), key=(), deeds=(ADD,)):
    return (kind, conditions, key, deeds)


class NeedTest(unittest.TestCase):
    def setUp(self):
        self.kinds = some_kinds()

    def assert_good(self, thing):
        self.assertIsNone(need_projection(self.kinds, thing))

    def assert_bad(self, part, thing):
        self.assertEqual(caught(self, BadProjection, need_projection, self.kinds, thing), {"part": part})

    def assert_rule(self, good, one):
        thing = (READS, CELLS, (one,))
        if good:
            self.assert_good(thing)
        else:
            self.assert_bad("rules", thing)

    def test_whole_ones(self):
        self.assert_good(WHOLE)
        for number in range(200):
            self.assert_good(some_projection(random.Random(number)))

    def test_at_their_bounds(self):
        self.assert_good(((), (("p", 0),), ()))
        self.assert_good((READS, tuple((name, 0) for name in "pqrs"), (RULE[:3] + ((ADD,),),) * 8))
        self.assert_bad("cells", (READS, tuple((name, 0) for name in "pqrst"), ()))
        self.assert_bad("cells", (READS, (), ()))
        self.assert_bad("rules", (READS, CELLS, (RULE,) * 9))
        for many in (0, 1, 2, 3, 4):
            self.assert_rule(many < 4, rule(key=(("field", "who"),) * many))
            self.assert_rule(many < 4, rule(key=(("value", 1),) * many))
        for many in (0, 1, 2, 30):
            self.assert_rule(many > 0, rule(deeds=(ADD,) * many))
        self.assert_good((READS, CELLS, (rule(), rule("move"), rule())))

    def test_of_anything(self):
        for thing in (*ANYTHING[:-1], WHOLE[:2], (*WHOLE, ()), list(WHOLE)):
            self.assert_bad("reads", thing)
        self.assert_bad("cells", ((), (), ()))

    def test_anything_at_each_place(self):
        reads, cells, rules = WHOLE
        for at, part in enumerate(("reads", "cells", "rules")):
            for path in places(WHOLE[at]):
                for thing in ANYTHING:
                    bent = [*WHOLE]
                    bent[at] = put(WHOLE[at], path, thing)
                    if not may_stand(at, path, thing):
                        self.assert_bad(part, tuple(bent))
        self.assertEqual(WHOLE, (reads, cells, rules))

    def test_lists_for_tuples_at_each_place(self):
        for at, part in enumerate(("reads", "cells", "rules")):
            for path in places(WHOLE[at]):
                held = get(WHOLE[at], path)
                if isinstance(held, tuple):
                    bent = [*WHOLE]
                    bent[at] = put(WHOLE[at], path, list(held))
                    self.assert_bad(part, tuple(bent))

    def test_one_more_or_less_at_each_place(self):
        for at, part in enumerate(("reads", "cells", "rules")):
            for path in places(WHOLE[at]):
                held = get(WHOLE[at], path)
                if isinstance(held, tuple) and len(path) > 0 and path[1:] not in ((1,), (2,), (3,)):
                    for other in (held[:-1], (*held, 1), (*held, held[-1])):
                        bent = [*WHOLE]
                        bent[at] = put(WHOLE[at], path, other)
                        self.assert_bad(part, tuple(bent))

    def test_reads(self):
        for reads in (
            (("move", 1), ("bill", 2)), (("bill", 1), ("bill", 2)), (("bill", 1), ("bill", 1)), (("Bill", 1),),
            (("bill", True),), (("bill", "1"),), (("bill", None),), (("", 1),), (("abcdefghijklm", 1),), (1, 2),
            (("zz", 1), ("aa", "x")), ("ab",), "ab",
        ):
            self.assert_bad("reads", (reads, (), None))

    def test_kinds_and_versions(self):
        for version in (0, 4, -1, 10 ** 15):
            fields = caught(self, NoVersion, need_projection, self.kinds, ((("bill", version),), CELLS, ()))
            self.assertEqual(fields, {"kind": "bill", "version": version})
        fields = caught(self, NoKind, need_projection, self.kinds, ((("abcdefghijkl", 1),), CELLS, ()))
        self.assertEqual(fields, {"kind": "abcdefghijkl"})
        caught(self, NoKind, need_projection, Kinds(), WHOLE)

    def test_cells(self):
        for cells in ((("p", 0), ("p", 1)), (("P", 0),), (("p", True),), (("p", "0"),), (("", 0),),
                      (("abcdefghijklm", 0),)):
            self.assert_bad("cells", (READS, cells, ()))
        self.assert_good((READS, (("q", 10 ** 15 - 1), ("p", -5), ("abcdefghijkl", 0)), ()))

    def test_kinds_of_rules(self):
        for kind in ("note", "zz", "", "BILL"):
            self.assert_rule(False, rule(kind))
        self.assert_rule(True, rule("move"))
        self.assert_bad("rules", ((), CELLS, (rule(),)))

    def test_conditions(self):
        for conditions in ((("no", 1),), (("no", -10 ** 15),), (("who", "abcdefgh"),), (("who", "a"), ("no", 2))):
            self.assert_rule(True, rule(conditions=conditions))
        for conditions in (
            (("no", "a"),), (("who", 1),), (("sum", 1),), (("note", "a"),), (("due", 1),), (("no", True),),
            (("who", "A"),), (("who", "abcdefghi"),), (("no", 1), ("no", 1)), (("no", 1), ("no", 2)), (("from", "a"),),
            (("no", None),), ("no", 1),
        ):
            self.assert_rule(False, rule(conditions=conditions))
        self.assert_rule(True, rule("move", conditions=(("from", "a"), ("to", "a"))))

    def test_keys(self):
        for part in (("field", "no"), ("field", "who"), ("value", 10 ** 15 - 1), ("value", -1), ("value", "abcdefgh")):
            self.assert_rule(True, rule(key=(part,)))
            self.assert_rule(True, rule(key=(part, part, part)))
        for part in (
            ("field", "sum"), ("field", "note"), ("field", "zz"), ("value", ""), ("value", "abcdefghi"), ("value", "A"),
            ("value", True), ("value", None), ("value", ("a",)), ("number", 1), ("say", "a"), ("Field", "no"),
        ):
            self.assert_rule(False, rule(key=(part,)))
            self.assert_rule(False, rule(key=(("value", 1), part)))

    def test_deeds(self):
        for word in ("add", "least", "most", "set"):
            for amount in (("number", 0), ("number", -10 ** 15 + 1), ("field", "no"), ("field", "sum")):
                self.assert_rule(True, rule(deeds=((word, "q", amount),)))
            for amount in (("number", "a"), ("number", True), ("field", "who"), ("field", "note"), ("field", "due"),
                           ("value", 1), ("number", None), ("field", None)):
                self.assert_rule(False, rule(deeds=((word, "q", amount),)))
                self.assert_rule(False, rule(deeds=(ADD, (word, "q", amount))))
        for deed in (("add", "r", ("number", 1)), ("add", "no", ("number", 1)), ("sub", "p", ("number", 1)),
                     ("forget", "p", ("number", 1)), ("ADD", "p", ("number", 1))):
            self.assert_rule(False, rule(deeds=(deed,)))

    def test_forget(self):
        self.assert_rule(True, rule(deeds=(("forget",),)))
        for deeds in ((("forget",), ("forget",)), (("forget",), ADD), (ADD, ("forget",)), ("forget",),
                      (("forget", "p"),), (("add",),), (["forget"],), [("forget",)], (("forget", None),),
                      ((Hostile(),),), (("forget",), Hostile())):
            self.assert_rule(False, rule(deeds=deeds))

    def test_which_refusal_goes_first(self):
        self.assert_bad("reads", ((("bill", 9), ("aa", 1)), (), None))
        caught(self, NoVersion, need_projection, self.kinds, ((("bill", 9), ("zz", 1)), (), None))
        caught(self, NoKind, need_projection, self.kinds, ((("aa", 9), ("bill", 9)), (), None))
        caught(self, NoKind, need_projection, self.kinds, ((("bill", 1), ("zz", 9)), (), None))
        self.assert_bad("cells", (READS, (), None))
        self.assert_bad("cells", (READS, (), (5,)))
        self.assert_bad("rules", (READS, CELLS, None))


class DeedsTest(unittest.TestCase):
    def setUp(self):
        self.kinds = some_kinds()

    def test_of_a_kind_that_is_not_read(self):
        for event in (("note", 1, ("a",)), ("note", 9, None), ("zz", 1, ()), ("note", 0, Hostile())):
            told = deeds_of(self.kinds, WHOLE, event)
            self.assertEqual((told, type(told)), ([], list))
        self.assertEqual(deeds_of(self.kinds, ((), CELLS, ()), ("bill", 1, None)), [])

    def test_by_an_event_of_the_version_read(self):
        self.assertEqual(deeds_of(self.kinds, WHOLE, ("bill", 2, ("a", 4, 30, "n"))), [
            (("a", 7), "add", "p", 1), (("a", 7), "set", "q", 30)])

    def test_raised(self):
        self.assertEqual(deeds_of(self.kinds, WHOLE, ("bill", 1, (4, 30, "a"))), [
            (("a", 7), "add", "p", 1), (("a", 7), "set", "q", 3000)])

    def test_all_conditions_must_hold(self):
        for who, no in (("a", 5), ("b", 4), ("b", 5)):
            self.assertEqual(deeds_of(self.kinds, WHOLE, ("bill", 2, (who, no, 30, "n"))), [])

    def test_conditions_on_what_upcasts_make(self):
        projection = ((("bill", 3),), CELLS, (rule(conditions=(("mark", 2),), key=(("field", "mark"),)),))
        self.assertEqual(deeds_of(self.kinds, projection, ("bill", 1, (4, 30, "b"))), [((2,), "add", "p", 1)])
        self.assertEqual(deeds_of(self.kinds, projection, ("bill", 1, (4, 30, "c"))), [])

    def test_rules_in_order(self):
        rules = (
            rule("move", key=(("field", "to"),)), rule(key=()), rule(key=(("field", "no"),) * 3, deeds=(("forget",),)),
            rule(deeds=(
                ("most", "q", ("field", "no")), ("least", "p", ("field", "sum")), ("most", "q", ("number", 2)))))
        projection = (READS, CELLS, rules)
        self.assertEqual(deeds_of(self.kinds, projection, ("bill", 2, ("a", 4, 30, "n"))), [
            ((), "add", "p", 1), ((4, 4, 4), "forget", None, None), ((), "most", "q", 4), ((), "least", "p", 30),
            ((), "most", "q", 2)])
        self.assertEqual(deeds_of(self.kinds, projection, ("move", 1, ("a", "b"))), [(("b",), "add", "p", 1)])

    def test_unread(self):
        for version in (3, 4, 10 ** 15):
            for values in ((1, "a", 2, 3), None, Hostile()):
                fields = caught(self, Unread, deeds_of, self.kinds, WHOLE, ("bill", version, values))
                self.assertEqual(fields, {"kind": "bill"})

    def test_refused_as_raising(self):
        for version in (0, -1):
            fields = caught(self, NoVersion, deeds_of, self.kinds, WHOLE, ("bill", version, None))
            self.assertEqual(fields, {"kind": "bill", "version": version})
        for version in (None, True, "2"):
            caught(self, NoVersion, deeds_of, self.kinds, WHOLE, ("bill", version, None))
        for values in (None, (), ("a", 4, 30), (4, "a", 30, "n"), ["a", 4, 30, "n"], 5, "x", Hostile(),
                       (Hostile(),) * 4):
            caught(self, Strange, deeds_of, self.kinds, WHOLE, ("bill", 2, values))
        caught(self, NoKind, deeds_of, Kinds(), WHOLE, ("bill", 1, (4, 30, "a")))
        kinds = Kinds()
        for version in (1, 2):
            kinds.form("bill", FORMS[("bill", version)])
        fields = caught(self, NoWay, deeds_of, kinds, WHOLE, ("bill", 1, (4, 30, "a")))
        self.assertEqual(fields, {"early": 1, "late": 2})
        caught(self, Strange, deeds_of, kinds, WHOLE, ("bill", 1, (4, 30)))
        kinds = Kinds()
        kinds.form("bill", FORMS[("bill", 1)])
        fields = caught(self, NoVersion, deeds_of, kinds, WHOLE, ("bill", 1, None))
        self.assertEqual(fields, {"kind": "bill", "version": 2})

    def test_by_chance(self):
        chance = random.Random(51)
        for _ in range(1500):
            projection = some_projection(chance)
            event = some_event(chance, projection)
            self.assertEqual(deeds_of(self.kinds, projection, event), deeds_as_told(projection, event))


class FoldTest(unittest.TestCase):
    def setUp(self):
        self.kinds = some_kinds()

    def told(self, deeds, events, cells=CELLS, table=None):
        """The fold by a rule for each of the bills' numbers, from 0 on, of events that are told by numbers."""
        rules = tuple(rule(conditions=(("no", at),), deeds=(deed,)) for at, deed in enumerate(deeds))
        told = [("bill", 2, ("a", number, 40, "n")) for number in events]
        return fold(self.kinds, ((("bill", 2),), cells, rules), told, table=table)

    def test_of_no_events(self):
        self.assertEqual(fold(self.kinds, WHOLE, []), {})
        self.assertEqual(fold(self.kinds, WHOLE, ()), {})
        self.assertEqual(fold(self.kinds, WHOLE, [], table={(1,): (2, 3)}), {(1,): (2, 3)})
        self.assertEqual(fold(self.kinds, WHOLE, [("note", 1, ("a",))], table=None), {})

    def test_each_word(self):
        deeds = (("add", "q", ("number", -3)), ("least", "q", ("number", 2)), ("most", "q", ("number", -9)),
                 ("set", "q", ("field", "sum")), ("forget",), ("add", "p", ("number", 4)))
        for events, row in (
            ((0,), (0, -8)), ((0, 0), (0, -11)), ((1,), (0, 2)), ((1, 0), (0, -1)), ((1, 1), (0, 2)), ((2,), (0, -9)),
            ((2, 2), (0, -9)), ((3,), (0, 40)), ((3, 1), (0, 40)), ((3, 2), (0, -9)), ((2, 1), (0, 2)),
            ((1, 2), (0, -9)),
            ((5,), (4, -5)), ((5, 3, 5), (8, 40)), ((3, 4, 5), (4, -5)), ((4, 3), (0, 40)), ((0, 4, 4, 0), (0, -8)),
        ):
            self.assertEqual(self.told(deeds, events), {(): row}, events)
        for events in ((4,), (4, 4), (0, 4), (3, 4, 4)):
            self.assertEqual(self.told(deeds, events), {}, events)

    def test_from_a_table(self):
        deeds = (ADD, ("forget",), ("least", "q", ("number", 2)))
        table = {(): (7, 8), ("a",): (1, 1)}
        kept = copy.deepcopy(table)
        for events, row in (((), (7, 8)), ((0,), (8, 8)), ((2,), (7, 8)), ((1, 0), (1, -5))):
            told = self.told(deeds, events, table=table)
            self.assertEqual(told, {(): row, ("a",): (1, 1)})
            told[(9,)] = (1, 1)
            self.assertEqual(table, kept)
        self.assertEqual(self.told(deeds, (1,), table=table), {("a",): (1, 1)})
        self.assertEqual(table, kept)

    def test_of_great_numbers(self):
        table = {(): (10 ** 39, -10 ** 39)}
        self.assertEqual(self.told((ADD,), (0, 0), table=table), {(): (10 ** 39 + 2, -10 ** 39)})

    def test_keys_of_several_parts(self):
        one = rule(key=(("field", "no"), ("value", "x"), ("field", "who")))
        events = [("bill", 2, (who, no, 1, "")) for who, no in (("a", 1), ("b", 1), ("a", 1), ("a", 2))]
        self.assertEqual(fold(self.kinds, (READS, (("p", 0),), (one,)), events), {
            (1, "x", "a"): (2,), (1, "x", "b"): (1,), (2, "x", "a"): (1,)})

    def test_the_first_that_can_not_be_read(self):
        good = ("bill", 2, ("a", 4, 30, "n"))
        strange, unread, missing = ("bill", 2, None), ("bill", 3, None), ("bill", 0, None)
        for events, refusal in (([good, strange, unread, missing], Strange), ([unread, strange], Unread),
                                ([good, good, missing, unread], NoVersion)):
            table = {("a", 7): (1, 1)}
            for told in (events, tuple(events)):
                caught(self, refusal, fold, self.kinds, WHOLE, told, table=table)
            self.assertEqual(table, {("a", 7): (1, 1)})

    def test_by_chance(self):
        chance = random.Random(52)
        for _ in range(300):
            projection = some_projection(chance)
            events = some_events(chance, projection, chance.choice((1, 5, 30)))
            told = fold(self.kinds, projection, events)
            self.assertEqual(told, table_as_told(projection, events))
            self.assertTrue(all(type(key) is tuple and type(row) is tuple for key, row in told.items()))
            at = chance.randint(0, len(events))
            table = fold(self.kinds, projection, tuple(events[:at]))
            self.assertEqual(fold(self.kinds, projection, events[at:], table=table), told)
            self.assertEqual(table, table_as_told(projection, events[:at]))


class InterfaceTest(unittest.TestCase):
    def test_signatures(self):
        for function, told in ((need_projection, "(kinds, thing)"), (deeds_of, "(kinds, projection, event)"),
                               (fold, "(kinds, projection, events, *, table=None)")):
            self.assertEqual(str(inspect.signature(function)), told)
            self.assertEqual(function.__module__, module.__name__)

    def test_by_names(self):
        kinds, event = some_kinds(), ("bill", 2, ("a", 4, 30, "n"))
        self.assertIsNone(need_projection(thing=WHOLE, kinds=kinds))
        self.assertEqual(len(deeds_of(event=event, projection=WHOLE, kinds=kinds)), 2)
        self.assertEqual(fold(events=[event], projection=WHOLE, kinds=kinds, table={}), {("a", 7): (1, 30)})

    def test_told_lists_and_tables_changed(self):
        kinds, event = some_kinds(), ("bill", 2, ("a", 4, 30, "n"))
        deeds_of(kinds, WHOLE, event).clear()
        fold(kinds, WHOLE, [event]).clear()
        self.assertEqual(len(deeds_of(kinds, WHOLE, event)), 2)
        self.assertEqual(fold(kinds, WHOLE, [event]), {("a", 7): (1, 30)})
        self.assertEqual(deeds_of(kinds, WHOLE, event), deeds_of(kinds, WHOLE, event))


def places(thing):
    """The paths to all that stands in the tuples."""
    paths = [()]
    if isinstance(thing, tuple):
        for at, part in enumerate(thing):
            paths += [(at, *path) for path in places(part)]
    return paths


def get(thing, path):
    for at in path:
        thing = thing[at]
    return thing


def put(thing, path, other):
    """The thing with another one at the path."""
    if not path:
        return other
    at = path[0]
    return (*thing[:at], put(thing[at], path[1:], other), *thing[at + 1:])


def may_stand(at, path, thing):
    """Whether the thing, one of ANYTHING, may stand there in the whole projection."""
    if isinstance(thing, Hostile):
        return False
    if get(WHOLE[at], path) == thing:
        return True
    whole = isinstance(thing, int) and not isinstance(thing, bool)
    if at == 0:
        # Reads of none are refused by the rules, of other kinds and versions by these.
        return path == () and thing == () or path in ((0, 1), (1, 1)) and whole or path[1:] == (0,) and thing in NAMES
    if at == 1:
        return path[1:] == (1,) and whole or path[1:] == (0,) and thing in NAMES
    if path == ():
        return thing == ()
    path = path[1:]
    if path in ((1,), (2,)):
        return thing == ()
    if path == (1, 0, 1) or path == (3, 0, 2, 1):
        return whole
    if path == (1, 1, 1):
        return thing in NAMES
    if path == (2, 0, 1):
        return thing == "no"
    if path == (2, 1, 1):
        return whole or thing in NAMES
    if path == (3, 1, 2, 1):
        return thing == "no"
    return False


if __name__ == "__main__":
    unittest.main()
