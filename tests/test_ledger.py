"""The ledger: its deeds, its entries, its log. [25] [26] [27]"""

import copy
import inspect
import unittest

from asking import answer, entries, told
from eventledger import ledger as module
from eventledger.errors import (
    BadName, BadStep, Backward, Beyond, Conflict, Fell, Gone, NoKind, NoVersion, NoWay, Stale, Strange, Twice, Unlike,
    Unnumbered, WrongEnd)
from eventledger.ledger import Ledger
from eventledger.rows import framed
from eventledger.store import Store
from eventledger.tree import begins, leaf, root_of, stands
from eventledger.values import shown
from telling import FORMS, UPCASTS
from test_kinds import Hostile, caught

BILL, MOVE, NOTE = ("bill", 1, (4, 30, "a")), ("move", 1, ("a", "b")), ("note", 1, ("Hi!",))
COUNT = (("add", "p", ("number", 1)),)
CELLS = (("p", 0),)


def fresh(rows=()):
    store = Store(rows)
    return store, Ledger(store)


def furnished():
    """A store and a ledger with all kinds."""
    store, ledger = fresh()
    for (kind, _), form in FORMS.items():
        ledger.form(kind, form)
    for (kind, start, end), steps in UPCASTS.items():
        ledger.upcast(kind, start, end, steps)
    return store, ledger


def counting(*reads):
    """A projection that counts the events that it reads."""
    return (tuple(sorted(reads)), CELLS, tuple((kind, (), (("value", kind),), COUNT) for kind, _ in sorted(reads)))


class KindsTest(unittest.TestCase):
    def test_forms(self):
        store, ledger = fresh()
        form = FORMS[("bill", 1)]
        self.assertEqual([ledger.form("bill", form), ledger.form("bill", form), ledger.form("a", form)], [1, 2, 1])
        self.assertEqual((ledger.versions("bill"), ledger.versions("a"), ledger.versions("b")), (2, 1, 0))
        self.assertEqual(ledger.form_of("bill", 2), form)
        self.assertEqual(entries(store), [("form", "bill", form), ("form", "bill", form), ("form", "a", form)])
        self.assertEqual(store.rows()[0], framed(shown(("form", "bill", form))))
        self.assertEqual(store.steps(), 3)

    def test_forms_refused(self):
        store, ledger = fresh()
        for kind in ("", "A", None, 5, Hostile()):
            caught(self, BadName, ledger.form, kind, ())
        for form in ((), None, [("a", "code")], Hostile()):
            caught(self, Strange, ledger.form, "a", form)
        for kind in ("a", None, [], Hostile()):
            caught(self, NoKind, ledger.form_of, kind, 1)
            self.assertEqual(ledger.versions(kind), 0)
        ledger.form("a", FORMS[("bill", 1)])
        self.assertEqual(caught(self, NoVersion, ledger.form_of, "a", 2), {"kind": "a", "version": 2})
        self.assertEqual((store.steps(), ledger.busy()), (1, False))

    def test_upcasts(self):
        store, ledger = fresh()
        for _ in range(3):
            ledger.form("bill", FORMS[("bill", 1)])
        yes, no = [("scale", "no", 1, 1)], []
        steps = [("case", "who", "a", yes, no)]
        self.assertIsNone(ledger.upcast("bill", 1, 2, steps))
        kept = (("case", "who", "a", (("scale", "no", 1, 1),), ()),)
        self.assertEqual(entries(store)[-1], ("upcast", "bill", 1, 2, kept))
        steps.clear()
        yes.clear()
        ledger.project("view", ((("bill", 2),), CELLS, (("bill", (), (("field", "no"),), COUNT),)))
        ledger.tell([("bill", 1, (4, 30, "a"))])
        self.assertEqual(ledger.table("view"), {(5,): (1,)})
        for other in (ledger, Ledger(Store(store.rows()))):
            self.assertEqual(other.table("view"), {(5,): (1,)})
            caught(self, Twice, other.upcast, "bill", 1, 2, None)

    def test_upcasts_refused(self):
        store, ledger = fresh()
        for _ in range(3):
            ledger.form("bill", FORMS[("bill", 1)])
        ledger.upcast("bill", 1, 2, [])
        ledger.upcast("bill", 2, 3, [])
        ahead = (store.rows(), told(ledger))
        for arguments, refusal in (
            (("a", 9, 9, None), NoKind), (("bill", 9, 8, None), NoVersion), (("bill", 1, 9, None), NoVersion),
            (("bill", 2, 2, None), Backward), (("bill", 1, 2, None), Twice), (("bill", 1, 3, [5]), BadStep),
            (("bill", 1, 3, [("drop", "no")]), WrongEnd), (("bill", 1, 3, [("scale", "no", 2, 0)]), Unlike),
            ((Hostile(), 1, 2, None), NoKind), (("bill", 1, 3, Hostile()), BadStep),
        ):
            caught(self, refusal, ledger.upcast, *arguments)
            self.assertEqual((store.rows(), told(ledger)), ahead)
        ledger.upcast("bill", 1, 3, [])


class TellTest(unittest.TestCase):
    def test_batches(self):
        store, ledger = furnished()
        many = store.steps()
        self.assertEqual(ledger.tell([BILL, MOVE]), 0)
        self.assertEqual(ledger.tell((NOTE,), teller="ann"), 2)
        self.assertEqual(ledger.tell([BILL], teller="ann", number=1), 3)
        self.assertEqual(ledger.tell([BILL], expect=4), 4)
        self.assertEqual(entries(store)[many:], [
            ("begin", None, None, 2), ("event", *BILL), ("event", *MOVE), ("done",),
            ("begin", "ann", None, 1), ("event", *NOTE), ("done",), ("begin", "ann", 1, 1), ("event", *BILL), ("done",),
            ("begin", None, None, 1), ("event", *BILL), ("done",)])
        self.assertEqual(store.steps(), many + 13)
        self.assertEqual(ledger.events(0, 5), [BILL, MOVE, NOTE, BILL, BILL])
        self.assertEqual((ledger.length(), ledger.kept(), ledger.generation()), (5, 0, 0))

    def test_how_many(self):
        _, ledger = furnished()
        self.assertEqual(ledger.tell([NOTE] * 20), 0)
        for events in ([], (), [NOTE] * 21, [None] * 21):
            caught(self, Strange, ledger.tell, events)
        self.assertEqual(ledger.tell([NOTE]), 20)

    def test_numbered(self):
        store, ledger = furnished()
        self.assertEqual(ledger.last_number("ann"), 0)
        self.assertEqual(ledger.tell([BILL, MOVE], teller="ann", number=1), 0)
        self.assertEqual(ledger.last_number("ann"), 1)
        many = store.steps()
        for events in ([BILL, MOVE], [NOTE], [("zz", 9, None)], [None]):
            self.assertEqual(ledger.tell(events, teller="ann", number=1), 0)
            self.assertEqual(ledger.tell(events, teller="ann", number=1, expect=77), 0)
        self.assertEqual((store.steps(), ledger.length()), (many, 2))
        for number in (0, 3, 4, -1):
            self.assertEqual(caught(self, Unnumbered, ledger.tell, [BILL], teller="ann", number=number), {"wanted": 2})
            self.assertEqual(caught(self, Unnumbered, ledger.tell, [BILL], teller="bob", number=number), {"wanted": 1})
        caught(self, Unnumbered, ledger.tell, [BILL], teller="bob", number=2)
        self.assertEqual(ledger.tell([NOTE], teller="bob", number=1), 2)
        self.assertEqual(ledger.tell([NOTE], teller="ann"), 3)
        self.assertEqual(ledger.tell([BILL], teller="ann", number=2), 4)
        self.assertEqual(ledger.tell([BILL], teller="ann", number=2), 4)
        self.assertEqual(ledger.tell([NOTE], teller="bob", number=1), 2)
        self.assertEqual(caught(self, Unnumbered, ledger.tell, [BILL], teller="ann", number=1), {"wanted": 3})
        self.assertEqual([ledger.last_number(teller) for teller in ("ann", "bob", "cy")], [2, 1, 0])
        for teller in (None, 5, "", [], Hostile()):
            self.assertEqual(ledger.last_number(teller), 0)
        self.assertEqual(told(Ledger(Store(store.rows()))), told(ledger))

    def test_what_was_refused_is_not_told_done(self):
        _, ledger = furnished()
        caught(self, NoKind, ledger.tell, [("zz", 1, ())], teller="ann", number=1)
        self.assertEqual(ledger.last_number("ann"), 0)
        self.assertEqual(ledger.tell([NOTE], teller="ann", number=1), 0)

    def test_expected_length(self):
        _, ledger = furnished()
        self.assertEqual(ledger.tell([NOTE], expect=0), 0)
        for expect in (0, 2, -1):
            fields = caught(self, Conflict, ledger.tell, [NOTE], expect=expect)
            self.assertEqual(fields, {"expected": expect, "found": 1})
        self.assertEqual(ledger.tell([NOTE], expect=1), 1)

    def test_events_refused(self):
        store, ledger = furnished()
        ahead = (store.rows(), told(ledger))
        for event, refusal, fields in (
            (("zz", 1, ()), NoKind, {"kind": "zz"}), (("BILL", 1, ()), NoKind, {"kind": "BILL"}),
            ((5, 1, ()), NoKind, {"kind": 5}), (("bill", 4, ()), NoVersion, {"kind": "bill", "version": 4}),
            (("bill", 0, ()), NoVersion, {"kind": "bill", "version": 0}), (("bill", 1, (4, 30)), Strange, {}),
            (("bill", 1, None), Strange, {}), (("bill", 1, [4, 30, "a"]), Strange, {}),
            (("bill", 1, (4, True, "a")), Strange, {}), (("note", 1, ("x" * 41,)), Strange, {}),
            (("bill", 1, Hostile()), Strange, {}),
        ):
            for events in ([event], [NOTE, event], [event, ("yy", 9, None)]):
                self.assertEqual(caught(self, refusal, ledger.tell, events), fields)
                self.assertEqual((store.rows(), told(ledger)), ahead)

    def test_stale(self):
        _, ledger = furnished()
        ledger.project("view", counting(("bill", 2), ("move", 1)))
        ledger.rule("mail", ("bill", 2, (), (("value", 1),)))
        ledger.rule("far", ("bill", 1, (), (("value", 1),)))
        ledger.project("sums", counting(("bill", 3)))
        new = ("bill", 3, (1, "a", 2, 3))
        self.assertEqual(caught(self, Stale, ledger.tell, [new]), {"name": "far"})
        self.assertEqual(caught(self, Stale, ledger.tell, [("bill", 2, ("a", 1, 2, "x"))]), {"name": "far"})
        ledger.end("far")
        self.assertEqual(caught(self, Stale, ledger.tell, [new]), {"name": "mail"})
        ledger.end("mail")
        self.assertEqual(caught(self, Stale, ledger.tell, [new]), {"name": "view"})
        ledger.redefine("view", counting(("bill", 3), ("move", 1)))
        self.assertEqual(ledger.tell([new]), 0)

    def test_no_way(self):
        store, ledger = fresh()
        for (kind, _), form in FORMS.items():
            ledger.form(kind, form)
        ledger.project("view", counting(("bill", 3)))
        ledger.rule("far", ("bill", 2, (), (("value", 1),)))
        self.assertEqual(caught(self, NoWay, ledger.tell, [BILL]), {"early": 1, "late": 2})
        ledger.upcast("bill", 1, 2, UPCASTS[("bill", 1, 2)])
        self.assertEqual(caught(self, NoWay, ledger.tell, [BILL]), {"early": 1, "late": 3})
        two = ("bill", 2, ("a", 1, 2, "x"))
        self.assertEqual(caught(self, NoWay, ledger.tell, [two]), {"early": 2, "late": 3})
        # A name that reads an elder version goes ahead, whatever the other's name is.
        self.assertEqual(caught(self, Stale, ledger.tell, [("bill", 3, (1, "a", 2, 3))]), {"name": "far"})
        ledger.end("far")
        ledger.upcast("bill", 2, 3, UPCASTS[("bill", 2, 3)])
        self.assertEqual(ledger.tell([BILL, two, ("bill", 3, (1, "a", 2, 3))]), 0)
        self.assertEqual(ledger.table("view"), {("bill",): (3,)})

    def test_stale_goes_ahead_of_no_way_of_a_lesser_name(self):
        _, ledger = fresh()
        for (kind, _), form in FORMS.items():
            ledger.form(kind, form)
        ledger.project("a", counting(("bill", 3)))
        ledger.project("b", counting(("bill", 1)))
        self.assertEqual(caught(self, Stale, ledger.tell, [("bill", 2, ("a", 1, 2, "x"))]), {"name": "b"})

    def test_which_refusal_goes_first(self):
        _, ledger = furnished()
        ledger.tell([NOTE], teller="ann", number=1)
        bad = [("zz", 1, None)]
        caught(self, Strange, ledger.tell, [], teller="A", number=7, expect=9)
        caught(self, BadName, ledger.tell, bad, teller="A", number=7, expect=9)
        caught(self, BadName, ledger.tell, bad, teller=5, expect=9)
        caught(self, BadName, ledger.tell, bad, teller=Hostile(), number=1)
        caught(self, Unnumbered, ledger.tell, bad, teller="ann", number=7, expect=9)
        caught(self, Conflict, ledger.tell, bad, teller="ann", number=2, expect=9)
        caught(self, NoKind, ledger.tell, bad, teller="ann", number=2, expect=1)
        ledger.project("view", counting(("bill", 1)))
        stale = ("bill", 2, ("a", 1, 2, "x"))
        caught(self, Stale, ledger.tell, [stale, *bad])
        caught(self, NoKind, ledger.tell, [*bad, stale])
        caught(self, Strange, ledger.tell, [("bill", 2, None), stale])
        self.assertEqual(ledger.length(), 1)


class LogTest(unittest.TestCase):
    def test_events(self):
        _, ledger = furnished()
        ledger.tell([BILL, MOVE, NOTE])
        self.assertEqual([ledger.event(position) for position in (0, 1, 2)], [BILL, MOVE, NOTE])
        self.assertEqual(ledger.events(1, 3), [MOVE, NOTE])
        self.assertEqual(ledger.events(1, 2), [MOVE])
        for first, last in ((0, 0), (3, 3), (2, 1), (9, 9), (9, 4)):
            self.assertEqual(ledger.events(first, last), [])
        for position in (3, 4, 100):
            self.assertEqual(caught(self, Beyond, ledger.event, position), {"position": position})
        self.assertEqual(caught(self, Beyond, ledger.events, 0, 4), {"position": 3})
        self.assertEqual(caught(self, Beyond, ledger.events, 5, 9), {"position": 5})

    def test_let_go(self):
        _, ledger = furnished()
        ledger.tell([BILL, MOVE, NOTE])
        ledger.let_go(2)
        self.assertEqual((ledger.length(), ledger.kept()), (3, 2))
        self.assertEqual(ledger.events(2, 3), [NOTE])
        for position in (0, 1):
            self.assertEqual(caught(self, Gone, ledger.event, position), {"position": position})
            self.assertEqual(caught(self, Gone, ledger.events, position, 9), {"position": position})
            self.assertEqual(ledger.events(position, position), [])
        self.assertEqual(caught(self, Beyond, ledger.events, 2, 9), {"position": 3})
        self.assertEqual(ledger.tell([BILL]), 3)

    def test_told_lists_changed(self):
        _, ledger = furnished()
        events = [BILL, MOVE]
        ledger.tell(events)
        events.clear()
        ledger.events(0, 2).clear()
        ledger.projections().append("a")
        ledger.rules().append("a")
        self.assertEqual(ledger.events(0, 2), [BILL, MOVE])
        self.assertEqual((ledger.projections(), ledger.rules()), ([], []))

    def test_papers(self):
        _, ledger = furnished()
        self.assertEqual((ledger.root(), ledger.root(length=0), ledger.beginning(0)), (0, 0, []))
        caught(self, Beyond, ledger.standing, 0)
        ledger.tell([BILL, MOVE, NOTE])
        sums = [leaf(at, event) for at, event in enumerate((BILL, MOVE, NOTE))]
        for length in range(4):
            self.assertEqual(ledger.root(length=length), root_of(sums[:length]))
            for position in range(length):
                paper = ledger.standing(position, length=length)
                self.assertTrue(stands(root_of(sums[:length]), length, position, ledger.event(position), paper))
            for shorter in range(length + 1):
                paper = ledger.beginning(shorter, length=length)
                self.assertTrue(begins(ledger.root(length=length), length, ledger.root(length=shorter), shorter, paper))
        self.assertEqual(ledger.root(), ledger.root(length=3))
        self.assertEqual(ledger.standing(1), ledger.standing(1, length=3))
        self.assertEqual(ledger.beginning(1), ledger.beginning(1, length=None))
        for function, arguments, position in (
            (ledger.root, (4,), 4), (ledger.standing, (5, 4), 4), (ledger.standing, (3, 3), 3),
            (ledger.standing, (1, 1), 1), (ledger.standing, (0, 0), 0), (ledger.beginning, (5, 4), 4),
            (ledger.beginning, (3, 2), 3),
            (ledger.beginning, (1, 0), 1),
        ):
            fields = caught(self, Beyond, function, *arguments[:-1], length=arguments[-1])
            self.assertEqual(fields, {"position": position})
        self.assertEqual(caught(self, Beyond, ledger.standing, 3), {"position": 3})
        self.assertEqual(caught(self, Beyond, ledger.beginning, 4), {"position": 4})
        ahead = {key: value for key, value in told(ledger).items() if key[0] in ("standing", "beginning", "root")}
        ledger.let_go(2)
        self.assertEqual({key: value for key, value in told(ledger).items() if key in ahead}, ahead)


class FallenTest(unittest.TestCase):
    def test_all_is_refused_behind_a_fall(self):
        store, ledger = furnished()
        ledger.tell([NOTE])
        ledger.project("view", counting(("bill", 2)))
        ledger.rule("mail", ("bill", 2, (), (("value", 1),)))
        step = store.steps() + 1
        store.fall_at(step)
        self.assertEqual(caught(self, Fell, ledger.tell, [NOTE]), {"step": step})
        for function, *arguments in (
            (ledger.form, "a", FORMS[("note", 1)]), (ledger.form, None, None), (ledger.upcast, "zz", 1, 2, []),
            (ledger.versions, "bill"), (ledger.form_of, "bill", 1), (ledger.tell, [NOTE]), (ledger.tell, []),
            (ledger.last_number, "ann"), (ledger.length,), (ledger.kept,), (ledger.generation,), (ledger.event, 0),
            (ledger.events, 0, 0), (ledger.project, "x", None), (ledger.redefine, "x", None), (ledger.projections,),
            (ledger.table, "view"), (ledger.snapshot, "view"), (ledger.snapshots, "view"),
            (ledger.summary, "view", 0, 0), (ledger.rule, "x", None), (ledger.end, "mail"), (ledger.rules,),
            (ledger.due, "mail"), (ledger.intent, "mail"), (ledger.send, None), (ledger.let_go, 0),
            (ledger.root,), (ledger.standing, 0), (ledger.beginning, 0),
        ):
            self.assertEqual(caught(self, Fell, function, *arguments), {"step": step}, function)
            self.assertIs(ledger.busy(), False)

    def test_a_fall_at_each_sort_of_deed(self):
        for deed in (
            lambda ledger: ledger.form("a", FORMS[("note", 1)]), lambda ledger: ledger.tell([NOTE, NOTE]),
            lambda ledger: ledger.project("sums", counting(("bill", 2))), lambda ledger: ledger.snapshot("view"),
            lambda ledger: ledger.redefine("view", counting(("bill", 2))), lambda ledger: ledger.let_go(1),
            lambda ledger: ledger.redefine("view", ((("bill", 2),), CELLS, ())), lambda ledger: ledger.end("mail"),
            lambda ledger: ledger.rule("more", ("bill", 2, (), (("value", 1),))),
            lambda ledger: ledger.send(lambda rule, position, payload: "yes"),
            lambda ledger: ledger.upcast("move", 2, 3, []),
        ):
            for steps in range(60):
                store, ledger = furnished()
                ledger.form("move", FORMS[("move", 2)])
                ledger.project("view", counting(("bill", 2)))
                ledger.rule("mail", ("note", 1, (), (("value", 1),)))
                ledger.tell([NOTE, BILL, NOTE])
                ledger.send(lambda rule, position, payload: "yes", most=1)
                first = store.steps()
                store.fall_at(first + steps, signs=steps)
                found = answer(deed, ledger)
                if found[0] == "told":
                    self.assertEqual(store.steps(), first + steps)
                    break
                self.assertEqual(found, ("refused", "Fell", {"step": first + steps}))
                self.assertEqual(answer(ledger.length), ("refused", "Fell", {"step": first + steps}))
                self.assertIs(ledger.busy(), False)
            self.assertGreater(steps, 0)


class InterfaceTest(unittest.TestCase):
    def test_signatures(self):
        wanted = {
            "form": "(self, kind, form)", "upcast": "(self, kind, start, end, steps)", "versions": "(self, kind)",
            "form_of": "(self, kind, version)", "tell": "(self, events, *, expect=None, teller=None, number=None)",
            "last_number": "(self, teller)", "length": "(self)", "kept": "(self)", "generation": "(self)",
            "event": "(self, position)", "events": "(self, first, last)", "busy": "(self)",
            "project": "(self, name, projection)", "redefine": "(self, name, projection)", "projections": "(self)",
            "table": "(self, name, *, at=None, since=None)", "snapshot": "(self, name, *, at=None)",
            "snapshots": "(self, name)", "summary": "(self, name, first, last)",
            "rule": "(self, name, rule, *, position=None)", "end": "(self, name)", "rules": "(self)",
            "due": "(self, name)", "intent": "(self, name)", "send": "(self, sink, *, most=None)",
            "let_go": "(self, position)", "root": "(self, *, length=None)",
            "standing": "(self, position, *, length=None)", "beginning": "(self, shorter, *, length=None)",
        }
        for name, signature in wanted.items():
            self.assertEqual(str(inspect.signature(vars(Ledger)[name])), signature)
        self.assertEqual(str(inspect.signature(Ledger)), "(store)")
        self.assertEqual(Ledger.__module__, module.__name__)

    def test_by_names(self):
        ledger = Ledger(store=Store())
        for version in (1, 2):
            ledger.form(kind="bill", form=FORMS[("bill", version)])
        ledger.upcast(kind="bill", start=1, end=2, steps=UPCASTS[("bill", 1, 2)])
        self.assertEqual(ledger.versions(kind="bill"), 2)
        self.assertEqual(ledger.form_of(kind="bill", version=1), FORMS[("bill", 1)])
        ledger.tell(events=[BILL, BILL], expect=0, teller="ann", number=1)
        self.assertEqual(ledger.last_number(teller="ann"), 1)
        self.assertEqual((ledger.event(position=0), ledger.events(first=0, last=1)), (BILL, [BILL]))
        ledger.project(name="view", projection=counting(("bill", 2)))
        self.assertEqual(ledger.redefine(name="view", projection=counting(("bill", 2))), ("same",))
        self.assertEqual(ledger.snapshot(name="view", at=1), 1)
        self.assertEqual(ledger.snapshots(name="view"), [1])
        self.assertEqual(ledger.table(name="view", at=2, since=1), {("bill",): (2,)})
        self.assertEqual(ledger.summary(name="view", first=0, last=2), {("bill",): ("touched", ((2, None, None),))})
        ledger.rule(name="mail", rule=("bill", 2, (), (("field", "no"),)), position=1)
        self.assertEqual((ledger.due(name="mail"), ledger.intent(name="mail")), ([(1, (4,))], None))
        self.assertEqual(ledger.send(sink=lambda rule, position, payload: "yes", most=1), 1)
        ledger.end(name="mail")
        ledger.let_go(position=1)
        self.assertEqual(ledger.root(length=1), ledger.beginning(shorter=0, length=1)[0])
        self.assertEqual(ledger.standing(position=0, length=1), [])

    def test_two_by_turns(self):
        (first, one), (second, other) = furnished(), furnished()
        for number in range(3):
            one.tell([BILL] * (number + 1), teller="ann", number=number + 1)
            other.tell([NOTE], teller="ann", number=number + 1)
        one.project("view", counting(("bill", 2)))
        other.rule("view", ("note", 1, (), (("field", "text"),)), position=0)
        one.snapshot("view")
        other.send(lambda rule, position, payload: "yes", most=2)
        one.let_go(4)
        self.assertEqual((one.length(), one.kept(), other.length(), other.kept()), (6, 4, 3, 0))
        self.assertEqual((one.projections(), one.rules()), (["view"], []))
        self.assertEqual((other.projections(), other.rules()), ([], ["view"]))
        for store, ledger in ((first, one), (second, other)):
            self.assertEqual(told(Ledger(Store(store.rows()))), told(ledger))

    def test_handed_in_tuples_and_dicts_stay(self):
        _, ledger = furnished()
        handed = [BILL, NOTE]
        kept = copy.deepcopy(handed)
        ledger.tell(handed, teller="ann", number=1)
        ledger.project("view", counting(("bill", 2)))
        ledger.snapshot("view", at=1)
        for table in (ledger.table("view"), ledger.table("view", at=1), ledger.table("view", since=1)):
            table.clear()
        ledger.snapshots("view").clear()
        ledger.summary("view", 0, 2).clear()
        ledger.standing(1).clear()
        ledger.beginning(1).clear()
        self.assertEqual(handed, kept)
        self.assertEqual((ledger.table("view"), ledger.table("view", at=1)), ({("bill",): (1,)}, {("bill",): (1,)}))
        self.assertEqual((len(ledger.standing(1)), len(ledger.beginning(1)), ledger.snapshots("view")), (1, 2, [1]))


if __name__ == "__main__":
    unittest.main()
