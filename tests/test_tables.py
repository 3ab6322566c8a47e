"""Projections of a ledger: tables, snapshots, summaries, redefinitions. [28] [29] [30]"""

import itertools
import random
import unittest

from asking import answer, entries, told
from eventledger.carrying import same_deeds
from eventledger.errors import (
    BadName, BadProjection, Beyond, Gone, Known, Needs, NoKind, NoName, NoSnapshot, NoVersion, NoWay, OtherCells)
from eventledger.kinds import Kinds
from eventledger.ledger import Ledger
from eventledger.store import Store
from eventledger.summaries import applied, joined, summed
from eventledger.values import shown
from telling import FORMS, UPCASTS, deeds_as_told, some_events, some_kinds, some_projection, table_as_told
from test_kinds import Hostile, caught
from test_ledger import BILL, CELLS, MOVE, NOTE, counting, fresh, furnished

NEW_BILL = ("bill", 3, (1, "a", 2, 3))
BY_WHO = ((("bill", 2),), (("sum", 0), ("top", -1)), (
    ("bill", (), (("field", "who"),), (("add", "sum", ("field", "sum")), ("least", "top", ("field", "no")))),))
NAMES = ("", "A", "a b", "abcdefghijklm", None, 5, True, (), [], {}, Hostile())


def bill(no, money, who):
    return ("bill", 2, (who, no, money, "n"))


EVENTS = [bill(1, 10, "a"), bill(9, 5, "b"), NOTE, bill(3, 20, "a"), BILL, MOVE, bill(4, 1, "b")]


def viewed(events=EVENTS, definition=BY_WHO):
    store, ledger = furnished()
    ledger.project("view", definition)
    for start in range(0, len(events), 20):
        ledger.tell(events[start:start + 20])
    return store, ledger


class ProjectTest(unittest.TestCase):
    def test_its_entry(self):
        store, ledger = furnished()
        self.assertIsNone(ledger.project("view", BY_WHO))
        self.assertEqual(entries(store)[-1], ("projection", "view", BY_WHO))
        ledger.project("cost", counting())
        self.assertEqual(ledger.projections(), ["cost", "view"])

    def test_names(self):
        _, ledger = furnished()
        for name in NAMES:
            caught(self, BadName, ledger.project, name, None)
        ledger.project("view", BY_WHO)
        ledger.rule("mail", ("note", 1, (), (("value", 1),)))
        for name in ("view", "mail"):
            self.assertEqual(caught(self, Known, ledger.project, name, None), {"name": name})
        ledger.end("mail")
        self.assertEqual(caught(self, Known, ledger.project, "mail", None), {"name": "mail"})
        self.assertEqual(ledger.projections(), ["view"])

    def test_definitions(self):
        _, ledger = furnished()
        self.assertEqual(caught(self, BadProjection, ledger.project, "view", None), {"part": "reads"})
        self.assertEqual(caught(self, NoKind, ledger.project, "view", ((("zz", 1),), None, None)), {"kind": "zz"})
        fields = caught(self, NoVersion, ledger.project, "view", ((("bill", 4),), None, None))
        self.assertEqual(fields, {"kind": "bill", "version": 4})
        self.assertEqual(caught(self, BadProjection, ledger.project, "view", ((), (), None)), {"part": "cells"})
        self.assertEqual(caught(self, BadProjection, ledger.project, "view", ((), CELLS, None)), {"part": "rules"})
        self.assertEqual(ledger.projections(), [])

    def test_needs(self):
        _, ledger = furnished()
        ledger.tell([BILL, NOTE, bill(1, 2, "a"), NEW_BILL, bill(1, 2, "a"), NEW_BILL])
        self.assertEqual(caught(self, Needs, ledger.project, "view", counting(("bill", 2))), {"position": 3})
        self.assertEqual(caught(self, Needs, ledger.project, "view", counting(("bill", 1))), {"position": 2})
        ledger.project("view", counting(("bill", 3), ("move", 2)))
        self.assertEqual(ledger.table("view"), {("bill",): (5,)})
        _, ledger = furnished()
        ledger.tell([NEW_BILL, NEW_BILL])
        self.assertEqual(caught(self, Needs, ledger.project, "view", counting(("bill", 2))), {"position": 0})
        ledger.project("view", counting())
        self.assertEqual(caught(self, Needs, ledger.redefine, "view", counting(("bill", 2))), {"position": 0})

    def test_needs_a_way(self):
        _, ledger = fresh()
        for (kind, _), form in FORMS.items():
            ledger.form(kind, form)
        ledger.tell([NOTE, BILL, bill(1, 2, "a")])
        both = counting(("bill", 2), ("note", 1))
        self.assertEqual(caught(self, Needs, ledger.project, "view", both), {"position": 1})
        ledger.upcast("bill", 1, 2, UPCASTS[("bill", 1, 2)])
        self.assertEqual(caught(self, Needs, ledger.project, "view", counting(("bill", 3))), {"position": 1})
        ledger.project("view", counting(("bill", 2)))
        ledger.project("cost", counting(("note", 1)))

    def test_behind_letting_go(self):
        _, ledger = viewed()
        ledger.let_go(2)
        self.assertEqual(caught(self, Gone, ledger.project, "cost", counting()), {"position": 0})

    def test_which_refusal_goes_first(self):
        _, ledger = viewed([NEW_BILL], counting(("bill", 3)))
        ledger.tell([NEW_BILL])
        ledger.let_go(1)
        caught(self, BadName, ledger.project, "A", None)
        caught(self, Known, ledger.project, "view", None)
        caught(self, BadProjection, ledger.project, "cost", None)
        caught(self, NoVersion, ledger.project, "cost", ((("bill", 7),), CELLS, ()))
        caught(self, Gone, ledger.project, "cost", counting(("bill", 2)))


class TableTest(unittest.TestCase):
    def test_as_of_each_position(self):
        _, ledger = viewed()
        self.assertEqual(ledger.table("view", at=0), {})
        self.assertEqual(ledger.table("view", at=2), {("a",): (10, 1), ("b",): (5, 9)})
        self.assertEqual(ledger.table("view"), {("a",): (3030, 4), ("b",): (6, 9)})
        for position in range(8):
            self.assertEqual(ledger.table("view", at=position), table_as_told(BY_WHO, EVENTS[:position]))
        self.assertEqual(ledger.table("view", at=None), ledger.table("view", at=7))

    def test_refused(self):
        _, ledger = viewed()
        ledger.rule("mail", ("note", 1, (), (("value", 1),)))
        for name in ("mail", "cost", *NAMES):
            fields = caught(self, NoName, ledger.table, name, at=99, since=98)
            self.assertIs(fields["name"], name)
        for position in (8, 99):
            self.assertEqual(caught(self, Beyond, ledger.table, "view", at=position, since=98), {"position": position})
        for since in (0, 3, 7, 99):
            self.assertEqual(caught(self, NoSnapshot, ledger.table, "view", at=7, since=since), {"position": since})

    def test_from_each_snapshot(self):
        _, ledger = viewed()
        for position in (0, 2, 5, 7):
            self.assertEqual(ledger.snapshot("view", at=position), position)
        for position, since in itertools.product(range(8), repeat=2):
            if since in (0, 2, 5, 7) and since <= position:
                wanted = table_as_told(BY_WHO, EVENTS[:position])
                self.assertEqual(ledger.table("view", at=position, since=since), wanted)
            else:
                self.assertEqual(caught(self, NoSnapshot, ledger.table, "view", at=position, since=since),
                                 {"position": since})
        self.assertEqual(ledger.table("view", since=5), table_as_told(BY_WHO, EVENTS))

    def test_behind_letting_go(self):
        _, ledger = viewed()
        for position in (0, 2, 6):
            ledger.snapshot("view", at=position)
        ledger.let_go(4)
        self.assertEqual(ledger.snapshots("view"), [0, 2, 4, 6])
        for position in range(8):
            wanted = table_as_told(BY_WHO, EVENTS[:position])
            if position in (1, 3):
                for since in (None, 0, 9):
                    self.assertEqual(caught(self, Gone, ledger.table, "view", at=position, since=since),
                                     {"position": position})
                continue
            self.assertEqual(ledger.table("view", at=position), wanted)
            for since in (0, 2, 4, 6):
                found = answer(ledger.table, "view", at=position, since=since)
                if since > position:
                    self.assertEqual(found, ("refused", "NoSnapshot", {"position": since}))
                elif since < 4 and since < position:
                    self.assertEqual(found, ("refused", "Gone", {"position": since}))
                else:
                    self.assertEqual(found, ("told", wanted))
        self.assertEqual(caught(self, NoSnapshot, ledger.table, "view", since=3), {"position": 3})

    def test_by_chance(self):
        chance = random.Random(91)
        for _ in range(60):
            projection = some_projection(chance)
            events = some_events(chance, projection, chance.choice((0, 3, 25)))
            store, ledger = viewed(events, projection)
            for _ in range(3):
                ledger.snapshot("view", at=chance.randint(0, len(events)))
            for position in range(len(events) + 1):
                wanted = table_as_told(projection, events[:position])
                self.assertEqual(ledger.table("view", at=position), wanted)
                for since in ledger.snapshots("view"):
                    if since <= position:
                        self.assertEqual(ledger.table("view", at=position, since=since), wanted)
            self.assertEqual(told(Ledger(Store(store.rows()))), told(ledger))


class SnapshotTest(unittest.TestCase):
    def test_its_entry(self):
        store, ledger = viewed()
        self.assertEqual(ledger.snapshots("view"), [])
        self.assertEqual(ledger.snapshot("view"), 7)
        self.assertEqual(entries(store)[-1], ("snapshot", "view", 7, ((("a",), (3030, 4)), (("b",), (6, 9)))))
        self.assertEqual(ledger.snapshot("view", at=0), 0)
        self.assertEqual(entries(store)[-1], ("snapshot", "view", 0, ()))
        steps = store.steps()
        self.assertEqual([ledger.snapshot("view"), ledger.snapshot("view", at=0)], [7, 0])
        self.assertEqual(store.steps(), steps)
        ledger.snapshot("view", at=3)
        self.assertEqual(ledger.snapshots("view"), [0, 3, 7])

    def test_rows_rise_as_their_writings(self):
        rule = ("bill", (), (("field", "no"),), (("add", "p", ("number", 1)),))
        more = ("bill", (("who", "a"),), (("field", "no"), ("field", "who")), (("add", "p", ("number", 1)),))
        last = ("bill", (), (("field", "who"),), (("add", "p", ("number", 1)),))
        events = [bill(no, 1, who) for no in (10, 9, -1, 100, 2, 1, 0) for who in ("a", "ab", "b")]
        store, ledger = viewed(events, ((("bill", 2),), CELLS, (rule, more, last)))
        ledger.snapshot("view")
        rows = entries(store)[-1][3]
        self.assertEqual(list(rows), sorted(ledger.table("view").items(), key=shown))
        self.assertEqual(len(rows), 17)
        self.assertLess(rows.index(((10,), (3,))), rows.index(((2,), (3,))))

    def test_refused(self):
        store, ledger = viewed()
        steps = store.steps()
        for name in ("mail", *NAMES):
            fields = caught(self, NoName, ledger.snapshot, name, at=99)
            self.assertIs(fields["name"], name)
            caught(self, NoName, ledger.snapshots, name)
        self.assertEqual(caught(self, Beyond, ledger.snapshot, "view", at=8), {"position": 8})
        self.assertEqual(store.steps(), steps)
        ledger.snapshot("view", at=1)
        ledger.let_go(3)
        steps = store.steps()
        self.assertEqual(caught(self, Gone, ledger.snapshot, "view", at=2), {"position": 2})
        self.assertEqual([ledger.snapshot("view", at=1), ledger.snapshot("view", at=3)], [1, 3])
        self.assertEqual(store.steps(), steps)


class SummaryTest(unittest.TestCase):
    def test_of_each_run(self):
        _, ledger = viewed()
        kinds = some_kinds()
        for first, last in itertools.combinations_with_replacement(range(8), 2):
            summary = ledger.summary("view", first, last)
            self.assertEqual(summary, summed(kinds, BY_WHO, EVENTS[first:last]))
            self.assertEqual(applied(BY_WHO, summary, ledger.table("view", at=first)), ledger.table("view", at=last))
            self.assertEqual(joined(BY_WHO, summary, ledger.summary("view", last, 7)), ledger.summary("view", first, 7))

    def test_refused(self):
        _, ledger = viewed()
        caught(self, NoName, ledger.summary, "mail", 0, 99)
        caught(self, NoName, ledger.summary, Hostile(), 0, 0)
        self.assertEqual(caught(self, Beyond, ledger.summary, "view", 0, 8), {"position": 7})
        self.assertEqual(caught(self, Beyond, ledger.summary, "view", 9, 11), {"position": 9})
        self.assertEqual(ledger.summary("view", 9, 9), {})
        ledger.let_go(4)
        self.assertEqual(caught(self, Gone, ledger.summary, "view", 3, 9), {"position": 3})
        self.assertEqual(ledger.summary("view", 3, 3), {})
        self.assertEqual(ledger.summary("view", 4, 7), summed(some_kinds(), BY_WHO, EVENTS[4:7]))


class RedefineTest(unittest.TestCase):
    SAME = ((("bill", 2), ("note", 1)), BY_WHO[1], (
        ("bill", (), (("field", "who"),), (("add", "sum", ("field", "sum")),)),
        ("bill", (), (("field", "who"),), (("least", "top", ("field", "no")),))))
    OTHER = (BY_WHO[0], BY_WHO[1], (("bill", (("no", 4),), (("field", "who"),), (("add", "sum", ("field", "sum")),)),))

    def test_that_does_the_same(self):
        store, ledger = viewed()
        ledger.snapshot("view", at=3)
        table = ledger.table("view")
        self.assertEqual(ledger.redefine("view", self.SAME), ("same",))
        self.assertEqual(entries(store)[-1], ("projection", "view", self.SAME))
        self.assertEqual(ledger.snapshots("view"), [3])
        self.assertEqual((ledger.table("view"), ledger.table("view", since=3)), (table, table))
        self.assertEqual(told(Ledger(Store(store.rows()))), told(ledger))
        # It is the new one that is read from now on.
        ledger.form("note", FORMS[("note", 1)])
        self.assertEqual(answer(ledger.tell, [("note", 2, ("a",))]), ("refused", "Stale", {"name": "view"}))

    def test_that_does_not(self):
        store, ledger = viewed()
        ledger.snapshot("view", at=3)
        found = ledger.redefine("view", self.OTHER)
        self.assertEqual(found, same_deeds(some_kinds(), BY_WHO, self.OTHER))
        self.assertEqual(found[:3], ("differ", "bill", 1))
        self.assertNotEqual(deeds_as_told(BY_WHO, found[1:]), deeds_as_told(self.OTHER, found[1:]))
        self.assertEqual(entries(store)[-1], ("anew", "view", self.OTHER))
        self.assertEqual((ledger.snapshots("view"), ledger.table("view")), ([], {("a",): (3000, -1), ("b",): (1, -1)}))
        self.assertEqual(caught(self, NoSnapshot, ledger.table, "view", since=3), {"position": 3})
        self.assertEqual(told(Ledger(Store(store.rows()))), told(ledger))

    def test_behind_letting_go(self):
        store, ledger = viewed()
        ledger.snapshot("view", at=1)
        ledger.let_go(3)
        ahead = told(ledger)
        self.assertEqual(caught(self, Gone, ledger.redefine, "view", self.OTHER), {"position": 0})
        self.assertEqual(told(ledger), ahead)
        self.assertEqual(ledger.redefine("view", self.SAME), ("same",))
        self.assertEqual(ledger.table("view"), ahead["table", "view", 7][1])
        self.assertEqual(ledger.snapshots("view"), [1, 3])
        self.assertEqual(told(Ledger(Store(store.rows()))), told(ledger))

    def test_refused(self):
        store, ledger = viewed()
        ledger.rule("mail", ("note", 1, (), (("value", 1),)))
        ahead = (store.rows(), told(ledger))
        for name in ("mail", "cost", *NAMES):
            self.assertIs(caught(self, NoName, ledger.redefine, name, None)["name"], name)
        for projection, refusal in (
            (None, BadProjection), (((("zz", 1),), CELLS, ()), NoKind), (((("bill", 4),), CELLS, ()), NoVersion),
            ((BY_WHO[0], (), ()), BadProjection), ((BY_WHO[0], CELLS, None), BadProjection),
            ((BY_WHO[0], CELLS, ()), OtherCells), ((BY_WHO[0], tuple(reversed(BY_WHO[1])), ()), OtherCells),
        ):
            caught(self, refusal, ledger.redefine, "view", projection)
            self.assertEqual((store.rows(), told(ledger)), ahead)

    def test_no_way(self):
        _, ledger = viewed([NOTE], counting(("bill", 2)))
        fields = caught(self, NoWay, ledger.redefine, "view", counting(("bill", 1)))
        self.assertEqual(fields, {"early": 2, "late": 1})
        ledger.tell([bill(1, 2, "a")])
        # Ahead of what the event needs, too.
        caught(self, NoWay, ledger.redefine, "view", counting(("bill", 1)))

    def test_needs(self):
        _, ledger = furnished()
        ledger.project("view", counting(("note", 1)))
        ledger.tell([NOTE, NEW_BILL, NOTE, NEW_BILL])
        reading = (*counting(("note", 1))[0],)
        wider = ((("bill", 2), *reading), CELLS, counting(("note", 1))[2])
        self.assertEqual(caught(self, Needs, ledger.redefine, "view", wider), {"position": 1})
        ledger.let_go(2)
        self.assertEqual(caught(self, Needs, ledger.redefine, "view", wider), {"position": 3})
        ledger.let_go(4)
        self.assertEqual(ledger.redefine("view", wider), ("same",))

    def test_needs_goes_ahead_of_gone(self):
        _, ledger = furnished()
        ledger.project("view", counting(("note", 1)))
        ledger.tell([NOTE, NEW_BILL])
        ledger.let_go(1)
        elder, newer = counting(("bill", 2), ("note", 1)), counting(("bill", 3), ("note", 1))
        self.assertEqual(caught(self, Needs, ledger.redefine, "view", elder), {"position": 1})
        self.assertEqual(caught(self, Gone, ledger.redefine, "view", newer), {"position": 0})

    def test_again_and_again(self):
        store, ledger = viewed()
        for definition, word in ((self.SAME, "same"), (BY_WHO, "same"), (self.OTHER, "differ"), (BY_WHO, "differ")):
            ledger.snapshot("view", at=2)
            self.assertEqual(ledger.redefine("view", definition)[0], word)
            self.assertEqual(ledger.snapshots("view"), [2] if word == "same" else [])
            self.assertEqual(ledger.table("view"), table_as_told(definition, EVENTS))
            self.assertEqual(told(Ledger(Store(store.rows()))), told(ledger))

    def test_to_a_newer_version(self):
        _, ledger = viewed()
        rule = ("bill", (), (("field", "who"),), (("add", "sum", ("field", "due")), ("least", "top", ("field", "no"))))
        newer = ((("bill", 3),), BY_WHO[1], (rule,))
        # The upcast makes another word of one.
        found = ledger.redefine("view", newer)
        self.assertEqual((found[:3], found[3][2]), (("differ", "bill", 1), "zz"))
        self.assertEqual(ledger.tell([NEW_BILL]), 7)

    def test_carried_over_to_a_newer_version(self):
        kinds = Kinds()
        store, ledger = fresh()
        for target in (kinds, ledger):
            target.form("bill", FORMS[("bill", 1)])
            target.form("bill", (("no", "code"), ("cents", "amount"), ("who", "word")))
            target.upcast("bill", 1, 2, [("scale", "sum", 100, 0), ("rename", "sum", "cents")])
        elder = ((("bill", 1),), CELLS, (("bill", (), (("field", "who"),), (("add", "p", ("field", "no")),)),))
        newer = ((("bill", 2),), CELLS, elder[2])
        ledger.project("view", elder)
        ledger.tell([BILL])
        ledger.snapshot("view")
        ledger.let_go(1)
        self.assertEqual(ledger.redefine("view", newer), ("same",))
        ledger.tell([("bill", 2, (6, 7, "a"))])
        self.assertEqual(ledger.table("view"), {("a",): (10,)})
        self.assertEqual(told(Ledger(Store(store.rows()))), told(ledger))


if __name__ == "__main__":
    unittest.main()
