"""Rules of effects, sending, ending, and letting go. [31] [32] [33]"""

import itertools
import random
import unittest

from asking import answer, entries, still_told, told
from eventledger.errors import (
    BadName, BadRule, Beyond, Busy, Fell, Gone, Known, Needed, Needs, NoKind, NoName, NoVersion, Pending, Strange)
from eventledger.ledger import Ledger
from eventledger.store import Store
from telling import FORMS, UPCASTS
from test_kinds import Hostile, caught
from test_ledger import BILL, MOVE, NOTE, counting, fresh, furnished
from test_tables import NAMES, NEW_BILL, bill

MAIL = ("bill", 2, (("who", "a"),), (("field", "sum"), ("value", "to"), ("field", "who")))
ALL = ("bill", 2, (), (("field", "no"),))
EVENTS = [bill(1, 10, "a"), NOTE, bill(2, 20, "b"), BILL, bill(5, 50, "a")]


def yes(rule, position, payload):
    return "yes"


class Sink:
    """A sink that says what it is told to say, and keeps what it was asked."""

    def __init__(self, *answers):
        self.answers = list(answers)
        self.asked = []

    def __call__(self, *things):
        self.asked.append(things)
        return self.answers.pop(0)


def ruled(events=EVENTS, **rules):
    """A ledger with rules that count from 0 on."""
    store, ledger = furnished()
    for name, rule in rules.items():
        ledger.rule(name, rule)
    if events:
        ledger.tell(events)
    return store, ledger


class RuleTest(unittest.TestCase):
    def test_its_entry(self):
        store, ledger = furnished()
        self.assertIsNone(ledger.rule("mail", MAIL))
        self.assertEqual(entries(store)[-1], ("rule", "mail", MAIL, 0))
        ledger.tell(EVENTS)
        ledger.rule("more", ALL)
        self.assertEqual(entries(store)[-1], ("rule", "more", ALL, 5))
        ledger.rule("far", ALL, position=2)
        self.assertEqual(entries(store)[-1], ("rule", "far", ALL, 2))
        self.assertEqual(ledger.rules(), ["far", "mail", "more"])

    def test_its_effects(self):
        _, ledger = ruled(mail=MAIL)
        self.assertEqual(ledger.due("mail"), [(0, (10, "to", "a")), (3, (3000, "to", "a")), (4, (50, "to", "a"))])
        for position in range(6):
            ledger.rule("abcdefg"[position], ALL, position=position)
        self.assertEqual([[at for at, _ in ledger.due(name)] for name in "abcdef"], [
            [0, 2, 3, 4], [2, 3, 4], [2, 3, 4], [3, 4], [4], []])
        ledger.rule("last", ALL)
        ledger.tell([bill(7, 7, "c")])
        self.assertEqual(ledger.due("last"), [(5, (7,))])

    def test_names(self):
        _, ledger = furnished()
        for name in NAMES:
            caught(self, BadName, ledger.rule, name, None)
        ledger.rule("mail", MAIL)
        ledger.project("view", counting())
        for name in ("mail", "view"):
            self.assertEqual(caught(self, Known, ledger.rule, name, None), {"name": name})
        ledger.end("mail")
        self.assertEqual(caught(self, Known, ledger.rule, "mail", None), {"name": "mail"})

    def test_shapes(self):
        _, ledger = furnished()
        kind, version, conditions, payload = MAIL
        for rule in (
            None, 5, (), MAIL[:3], (*MAIL, 1), list(MAIL), ("Bill", *MAIL[1:]), (None, *MAIL[1:]),
            (Hostile(), *MAIL[1:]), ("zz", 1, conditions, (("field", "no"), ("field", "No"))),
            ("zz", 1, conditions, (("value", [1]), ("field", "no"))),
            ("zz", True, conditions, payload), ("zz", "1", conditions, payload), ("zz", None, conditions, payload),
            ("zz", Hostile(), conditions, payload), ("zz", 1, conditions, ()), ("zz", 1, conditions, payload[:1] * 5),
            ("zz", 1, conditions, list(payload)), ("zz", 1, conditions, None), ("zz", 1, conditions, 5),
            *[("zz", 1, conditions, (part,)) for part in (
                None, 5, ("field",), ("field", "no", 1), ["field", "no"], ("field", "No"), ("field", 5),
                ("field", None),
                ("value", 1.5), ("value", [1]), ("value", object()), ("value", (1, (2, [3]))), ("value", "\n"),
                ("value", "50%"), ("value", 10 ** 40), ("value", Hostile()), ("say", "a"), (Hostile(), 1), (5, 5),
                Hostile())],
            Hostile(),
        ):
            self.assertEqual(caught(self, BadRule, ledger.rule, "mail", rule, position=99), {})
        self.assertEqual(ledger.rules(), [])

    def test_payloads(self):
        _, ledger = furnished()
        deep = 7
        for _ in range(20):
            deep = (deep, "a")
        for at, value in enumerate((0, -5, 10 ** 40 - 1, "", "A b\"~", None, True, False, (), (1, ("a", None)), deep)):
            name = "abcdefghijklm"[at]
            ledger.rule(name, ("note", 1, (), (("value", value), ("field", "text"))))
        ledger.tell([NOTE])
        self.assertEqual(ledger.due("k"), [(0, (deep, "Hi!"))])
        self.assertEqual(ledger.due("g"), [(0, (True, "Hi!"))])
        ledger.rule("four", ("note", 1, (), (("field", "text"),) * 4), position=0)
        self.assertEqual(ledger.due("four"), [(0, ("Hi!",) * 4)])

    def test_kinds_and_fields(self):
        _, ledger = furnished()
        self.assertEqual(caught(self, NoKind, ledger.rule, "mail", ("zz", 7, None, ALL[3])), {"kind": "zz"})
        for version in (0, 4, -1):
            fields = caught(self, NoVersion, ledger.rule, "mail", ("bill", version, None, ALL[3]))
            self.assertEqual(fields, {"kind": "bill", "version": version})
        for field in ("due", "zz", "mark"):
            caught(self, BadRule, ledger.rule, "mail", ("bill", 2, (), (("field", field),)))
            caught(self, BadRule, ledger.rule, "mail", ("bill", 2, (), (("field", "no"), ("field", field))))
            caught(self, BadRule, ledger.rule, "mail", ("bill", 2, (), (("field", field), ("value", 1))))
        for conditions in (
            None, 5, [], [("no", 1)], ("no", 1), (("no",),), (("no", "a"),), (("who", 1),), (("sum", 1),),
            (("note", "a"),), (("zz", 1),), (("no", 1), ("no", 2)), (("no", True),), ((Hostile(), 1),),
            (("no", Hostile()),), Hostile(),
        ):
            caught(self, BadRule, ledger.rule, "mail", ("bill", 2, conditions, ALL[3]), position=99)
        payload = tuple(("field", field) for field in ("no", "sum", "note"))
        ledger.rule("mail", ("bill", 2, (("no", 1), ("who", "a")), payload))

    def test_positions(self):
        _, ledger = ruled()
        for position in (6, 99):
            self.assertEqual(caught(self, Beyond, ledger.rule, "mail", MAIL, position=position), {"position": position})
        ledger.let_go(2)
        for position in (0, 1):
            self.assertEqual(caught(self, Gone, ledger.rule, "mail", MAIL, position=position), {"position": position})
        ledger.rule("mail", MAIL, position=2)
        ledger.rule("more", MAIL, position=5)
        self.assertEqual((ledger.due("mail"), ledger.due("more")), ([(3, (3000, "to", "a")), (4, (50, "to", "a"))], []))

    def test_needs(self):
        _, ledger = ruled([BILL, NEW_BILL, BILL])
        for position in (0, 1):
            self.assertEqual(caught(self, Needs, ledger.rule, "mail", MAIL, position=position), {"position": 1})
        ledger.rule("mail", MAIL, position=2)
        self.assertEqual(ledger.due("mail"), [(2, (3000, "to", "a"))])
        _, ledger = fresh()
        for (kind, _), form in FORMS.items():
            ledger.form(kind, form)
        ledger.tell([NOTE, BILL])
        self.assertEqual(caught(self, Needs, ledger.rule, "mail", MAIL, position=0), {"position": 1})
        ledger.upcast("bill", 1, 2, UPCASTS[("bill", 1, 2)])
        ledger.rule("mail", MAIL, position=0)

    def test_which_refusal_goes_first(self):
        _, ledger = ruled([NEW_BILL, NEW_BILL])
        ledger.let_go(1)
        ledger.rule("mail", ("bill", 3, (), (("value", 1),)))
        bad = ("zz", 9, None, (("field", "zz"),))
        caught(self, BadName, ledger.rule, "A", None, position=9)
        caught(self, Known, ledger.rule, "mail", None, position=9)
        caught(self, BadRule, ledger.rule, "more", ("zz", 9, None, ()), position=9)
        caught(self, NoKind, ledger.rule, "more", bad, position=9)
        caught(self, NoVersion, ledger.rule, "more", ("bill", *bad[1:]), position=9)
        caught(self, BadRule, ledger.rule, "more", ("bill", 2, (), bad[3]), position=9)
        caught(self, BadRule, ledger.rule, "more", ("bill", 2, None, ALL[3]), position=0)
        caught(self, Beyond, ledger.rule, "more", ALL, position=9)
        caught(self, Gone, ledger.rule, "more", ALL, position=0)
        caught(self, Needs, ledger.rule, "more", ALL, position=1)


class SendTest(unittest.TestCase):
    def test_all_yes(self):
        store, ledger = ruled(mail=MAIL, all=ALL)
        many = store.steps()
        sink = Sink(*["yes"] * 7)
        self.assertEqual(ledger.send(sink), 7)
        asked = [("all", at, (no,)) for at, no in ((0, 1), (2, 2), (3, 4), (4, 5))] + [
            ("mail", at, (money, "to", "a")) for at, money in ((0, 10), (3, 3000), (4, 50))]
        self.assertEqual(sink.asked, asked)
        written = [entry for things in asked for entry in (("intent", *things), ("sent", *things[:2]))]
        self.assertEqual(entries(store)[many:], written)
        self.assertEqual((ledger.due("all"), ledger.due("mail"), ledger.send(None)), ([], [], 0))
        ledger.tell([bill(8, 80, "a")])
        self.assertEqual((ledger.due("all"), ledger.due("mail")), ([(5, (8,))], [(5, (80, "to", "a"))]))

    def test_others_than_yes(self):
        for said in ("no", None, "", "YES", "yes ", True, 1, ["yes"], Hostile()):
            store, ledger = ruled(mail=MAIL, all=ALL)
            many = store.steps()
            sink = Sink("yes", said, said)
            self.assertEqual(ledger.send(sink), 1)
            self.assertEqual([things[:2] for things in sink.asked], [("all", 0), ("all", 2), ("mail", 0)])
            self.assertEqual(entries(store)[many:], [
                ("intent", "all", 0, (1,)), ("sent", "all", 0), ("intent", "all", 2, (2,)),
                ("intent", "mail", 0, (10, "to", "a"))])
            self.assertEqual((ledger.intent("all"), ledger.intent("mail")), ((2, (2,)), (0, (10, "to", "a"))))
            self.assertEqual([at for at, _ in ledger.due("all")], [2, 3, 4])
            again = Sink("yes", "yes", None, "yes", None)
            self.assertEqual(ledger.send(again), 3)
            self.assertEqual([things[:2] for things in again.asked], [
                ("all", 2), ("all", 3), ("all", 4), ("mail", 0), ("mail", 3)])
            self.assertEqual(entries(store)[many + 4:], [
                ("sent", "all", 2), ("intent", "all", 3, (4,)), ("sent", "all", 3), ("intent", "all", 4, (5,)),
                ("sent", "mail", 0), ("intent", "mail", 3, (3000, "to", "a"))])

    def test_at_most(self):
        for most in range(9):
            store, ledger = ruled(mail=MAIL, all=ALL)
            many = store.steps()
            sink = Sink(*["yes"] * 7)
            self.assertEqual(ledger.send(sink, most=most), min(most, 7))
            self.assertEqual(len(sink.asked), min(most, 7))
            self.assertEqual(store.steps(), many + 2 * min(most, 7))
        for most, asked in ((1, ["all"]), (2, ["all", "mail"]), (3, ["all", "mail"])):
            store, ledger = ruled(mail=MAIL, all=ALL)
            sink = Sink("no", "no", "no")
            self.assertEqual(ledger.send(sink, most=most), 0)
            self.assertEqual([things[0] for things in sink.asked], asked)
            self.assertEqual(len([entry for entry in entries(store) if entry[0] == "intent"]), len(asked))

    def test_none_due(self):
        store, ledger = furnished()
        steps = store.steps()
        self.assertEqual(ledger.send(yes), 0)
        ledger.rule("mail", MAIL)
        self.assertEqual(ledger.send(Hostile()), 0)
        ledger.tell([NOTE])
        self.assertEqual((ledger.send(None), ledger.due("mail"), ledger.intent("mail")), (0, [], None))
        self.assertEqual(store.steps(), steps + 1 + 3)

    def test_what_a_sink_raises(self):
        class Odd(Exception):
            pass

        for error in (Odd("x"), KeyError("a"), ValueError(), Fell(3), Busy(), StopIteration(), KeyboardInterrupt()):
            store, ledger = ruled(mail=MAIL)

            def sink(rule, position, payload):
                raise error

            with self.assertRaises(type(error)) as found:
                ledger.send(sink)
            self.assertIs(found.exception, error)
            self.assertIs(ledger.busy(), False)
            self.assertEqual(ledger.intent("mail"), (0, (10, "to", "a")))
            self.assertEqual(entries(store)[-1], ("intent", "mail", 0, (10, "to", "a")))
            self.assertEqual(told(Ledger(Store(store.rows()))), told(ledger))
            self.assertEqual(ledger.send(yes), 3)

    def test_asked_within(self):
        store, ledger = ruled(mail=MAIL, all=ALL)
        ledger.project("view", counting(("bill", 2)))
        found = []

        def sink(rule, position, payload):
            first = ledger.due(rule)[0]
            found.append((ledger.busy(), ledger.intent(rule), first, ledger.table("view"), ledger.rules()))
            rows = store.rows()
            for deed, *arguments in (
                (ledger.form, "a", None), (ledger.upcast, "a", 1, 2, None), (ledger.tell, []),
                (ledger.project, "A", None), (ledger.redefine, "A", None), (ledger.snapshot, "A"),
                (ledger.rule, "A", None), (ledger.end, "A"),
                (ledger.send, yes), (ledger.let_go, 99),
            ):
                self.assertEqual(caught(self, Busy, deed, *arguments), {})
                self.assertIs(ledger.busy(), True)
            self.assertEqual(store.rows(), rows)
            return "yes"

        self.assertEqual(ledger.send(sink, most=5), 5)
        self.assertEqual([busy for busy, *_ in found], [True] * 5)
        for _, intent, first, table, rules in found:
            self.assertEqual(intent, first)
            self.assertEqual((table, rules), ({("bill",): (4,)}, ["all", "mail"]))
        self.assertIs(ledger.busy(), False)
        self.assertEqual(ledger.send(sink), 2)

    def test_busy_that_a_sink_lets_through(self):
        _, ledger = ruled(mail=MAIL)
        caught(self, Busy, ledger.send, lambda *things: ledger.tell([NOTE]))
        self.assertIs(ledger.busy(), False)
        self.assertEqual((ledger.length(), ledger.intent("mail")), (5, (0, (10, "to", "a"))))
        self.assertEqual(ledger.tell([NOTE]), 5)

    def test_a_sink_that_asks_another_ledger(self):
        other_store, other = furnished()
        store, ledger = ruled(mail=MAIL)
        other_store.fall_at(other_store.steps())
        caught(self, Fell, ledger.send, lambda *things: other.tell([NOTE]))
        self.assertEqual((ledger.busy(), ledger.length()), (False, 5))
        self.assertEqual(ledger.send(yes), 3)

    def test_deeds_refused_leave_it_not_busy(self):
        _, ledger = ruled(mail=MAIL)
        for deed, *arguments in ((ledger.form, "A", None), (ledger.upcast, "zz", 1, 2, None), (ledger.tell, []),
                                 (ledger.project, "A", None), (ledger.redefine, "A", None), (ledger.snapshot, "A"),
                                 (ledger.rule, "A", None), (ledger.end, "A"), (ledger.let_go, 99)):
            self.assertEqual(answer(deed, *arguments)[0], "refused")
            self.assertIs(ledger.busy(), False)

    def test_falls_amid_sending(self):
        """Whatever falls, a sink that keeps to its word has each effect once, in order."""
        wanted = [("all", 0), ("all", 2), ("all", 3), ("all", 4), ("mail", 0), ("mail", 3), ("mail", 4)]
        base, _ = ruled(mail=MAIL, all=ALL)
        rows = base.rows()
        for step, signs in itertools.product(range(15), (0, 1, 9, 999)):
            store = Store(rows, fall=step, signs=signs)
            book = []

            def sink(rule, position, payload):
                last = max([at for name, at, _ in book if name == rule], default=-1)
                if position > last:
                    book.append((rule, position, payload))
                return "yes"

            found = answer(Ledger(store).send, sink)
            self.assertEqual(found, ("told", 7) if step == 14 else ("refused", "Fell", {"step": step}))
            ledger = Ledger(Store(store.rows()))
            ledger.send(sink)
            self.assertEqual([things[:2] for things in book], wanted)
            self.assertEqual((ledger.due("all"), ledger.due("mail"), ledger.intent("mail")), ([], [], None))

    def test_sinks_by_chance(self):
        chance = random.Random(101)
        for _ in range(60):
            store, ledger = ruled([], mail=MAIL, all=ALL)
            book = []

            def sink(rule, position, payload):
                said = chance.choice(("yes", "no", None, "lost"))
                last = max([at for name, at, _ in book if name == rule], default=-1)
                if said != "no" and position > last:
                    book.append((rule, position, payload))
                if said == "lost":
                    raise RuntimeError
                return said

            for _ in range(12):
                if chance.random() < 0.5:
                    ledger.tell(chance.choices(EVENTS, k=chance.randint(1, 3)))
                try:
                    ledger.send(sink, most=chance.choice((None, 0, 1, 3)))
                except RuntimeError:
                    self.assertIs(ledger.busy(), False)
                if chance.random() < 0.3:
                    ledger = Ledger(Store(ledger._store.rows()))
            while ledger.due("mail") or ledger.due("all"):
                try:
                    ledger.send(sink)
                except RuntimeError:
                    pass
            effects = [(at, event) for at, event in enumerate(ledger.events(0, ledger.length())) if event[0] == "bill"]
            self.assertEqual([at for name, at, _ in book if name == "all"], [at for at, _ in effects])
            self.assertEqual([at for name, at, _ in book if name == "mail"], [
                at for at, event in effects if "a" in event[2]])


class EndTest(unittest.TestCase):
    def test_ended(self):
        store, ledger = ruled(mail=MAIL, all=ALL)
        ledger.send(yes, most=1)
        self.assertIsNone(ledger.end("all"))
        self.assertEqual(entries(store)[-1], ("end", "all"))
        self.assertEqual((ledger.rules(), ledger.due("all"), ledger.intent("all")), (["mail"], [], None))
        sink = Sink("no")
        ledger.send(sink)
        self.assertEqual([things[0] for things in sink.asked], ["mail"])
        self.assertEqual(caught(self, NoName, ledger.end, "all"), {"name": "all"})

    def test_refused(self):
        _, ledger = ruled(mail=MAIL)
        ledger.project("view", counting())
        for name in ("view", "more", *NAMES):
            for asked in (ledger.end, ledger.due, ledger.intent):
                self.assertIs(caught(self, NoName, asked, name)["name"], name)
        ledger.send(Sink("yes", "no"))
        self.assertEqual(caught(self, Pending, ledger.end, "mail"), {"position": 3})
        self.assertEqual(ledger.rules(), ["mail"])
        ledger.send(yes)
        ledger.end("mail")

    def test_told_lists_changed(self):
        _, ledger = ruled(mail=MAIL)
        ledger.due("mail").clear()
        ledger.rules().clear()
        self.assertEqual((len(ledger.due("mail")), ledger.rules()), (3, ["mail"]))


class LetGoTest(unittest.TestCase):
    def setting(self):
        store, ledger = ruled([*EVENTS, MOVE, NEW_BILL][:6], mail=MAIL, all=ALL)
        ledger.project("view", counting(("bill", 2), ("move", 1)))
        ledger.project("sums", (((("bill", 3)),), (("p", 1), ("q", 2)), (
            ("bill", (), (("field", "who"),), (("add", "p", ("field", "due")), ("most", "q", ("number", 0)))),)))
        for position in (1, 4, 6):
            ledger.snapshot("view", at=position)
        ledger.tell([NOTE], teller="ann", number=1)
        ledger.tell([BILL, NOTE], teller="ann", number=2)
        ledger.tell([BILL], teller="bob", number=1)
        ledger.rule("more", ALL, position=3)
        ledger.end("more")
        ledger.send(Sink("yes", "yes", "yes", "no", "yes", "yes", "no"))
        return store, ledger

    def test_its_entries(self):
        store, ledger = ruled(EVENTS, all=ALL)
        ledger.project("view", counting(("bill", 2)))
        ledger.tell([NOTE], teller="ann", number=1)
        ledger.send(Sink("yes", "yes", "yes", "no"))
        shapes = [entry for entry in entries(store) if entry[0] in ("form", "upcast")]
        sums = [ledger.root(length=1)]
        self.assertIsNone(ledger.let_go(1))
        written = entries(store)
        self.assertEqual((written[0], written[-1]), (("new", 1), ("head", 1)))
        self.assertCountEqual(written[1:-1], [
            *shapes, ("let", 1, tuple(sums)), ("teller", "ann", 1, 5), ("begin", None, None, 5),
            *[("event", *event) for event in EVENTS[1:]], ("event", *NOTE), ("done",),
            ("projection", "view", counting(("bill", 2))), ("snapshot", "view", 1, ((("bill",), (1,)),)),
            ("rule", "all", ALL, 0), ("sent", "all", 2), ("sent", "all", 3), ("intent", "all", 4, (5,))])
        ledger.tell([BILL])
        ledger.let_go(2)
        written = entries(store)
        self.assertEqual((written[0], written[-1]), (("new", 2), ("head", 2)))
        self.assertEqual(ledger.generation(), 2)

    def test_all_is_told_as_ahead(self):
        for position in range(1, 5):
            store, ledger = self.setting()
            ahead = told(ledger)
            ledger.let_go(position)
            behind = told(ledger)
            self.assertEqual((behind["kept"], behind["generation"]), (position, 1))
            self.assertEqual(behind["snapshots", "view"], ("told", sorted({1, 4, 6, position})))
            self.assertEqual(behind["snapshots", "sums"], ("told", [position]))
            wanted = still_told(ahead, position)
            self.assertEqual({key: behind[key] for key in wanted}, wanted)
            self.assertEqual(told(Ledger(Store(store.rows()))), behind)
            self.assertEqual(ledger.tell([NOTE], teller="ann", number=2), 7)
            self.assertEqual(ledger.tell([NOTE], teller="bob", number=1), 9)
            self.assertEqual(answer(ledger.rule, "more", ALL), ("refused", "Known", {"name": "more"}))

    def test_again_and_again(self):
        store, ledger = self.setting()
        ledger.send(yes)
        ahead = told(ledger)
        for turn, position in enumerate((1, 2, 5, 9, 10), start=1):
            ledger.let_go(position)
            self.assertEqual((ledger.kept(), ledger.generation(), ledger.length()), (position, turn, 10))
            wanted = still_told(ahead, position)
            behind = told(ledger)
            self.assertEqual({key: behind[key] for key in wanted}, wanted)
            self.assertEqual(told(Ledger(Store(store.rows()))), behind)
        self.assertEqual(ledger.snapshots("view"), [1, 2, 4, 5, 6, 9, 10])
        self.assertEqual(ledger.tell([BILL]), 10)
        self.assertEqual(ledger.due("all"), [(10, (4,))])

    def test_where_they_are_gone_already(self):
        store, ledger = self.setting()
        ahead = (store.rows(), store.steps(), told(ledger))
        ledger.let_go(0)
        self.assertEqual((store.rows(), store.steps(), told(ledger)), ahead)
        ledger.let_go(2)
        ahead = (store.rows(), store.steps(), told(ledger))
        for position in (0, 1, 2):
            self.assertIsNone(ledger.let_go(position))
            self.assertEqual((store.rows(), store.steps(), told(ledger)), ahead)

    def test_refused(self):
        store, ledger = self.setting()
        ahead = (store.rows(), told(ledger))
        for position in (11, 99):
            self.assertEqual(caught(self, Beyond, ledger.let_go, position), {"position": position})
        # Of the rule named all the first effects are sent up to 3, of mail up to 3, too.
        for position in (5, 10):
            self.assertEqual(caught(self, Needed, ledger.let_go, position), {"name": "all", "position": 4})
        self.assertEqual((store.rows(), told(ledger)), ahead)
        self.assertIs(ledger.busy(), False)

    def test_needed_by_the_least_rule(self):
        _, ledger = ruled(mail=MAIL, all=ALL, zoo=MAIL)
        self.assertEqual(caught(self, Needed, ledger.let_go, 1), {"name": "all", "position": 0})
        ledger.send(Sink("yes", "yes", "no", "no", "no"))
        self.assertEqual(caught(self, Needed, ledger.let_go, 5), {"name": "all", "position": 3})
        self.assertEqual(caught(self, Needed, ledger.let_go, 3), {"name": "mail", "position": 0})
        ledger.send(Sink("yes", "yes", "yes", "no", "no"))
        self.assertEqual(caught(self, Needed, ledger.let_go, 1), {"name": "zoo", "position": 0})
        ledger.send(Sink("no", "yes", "no"))
        self.assertEqual(caught(self, Needed, ledger.let_go, 4), {"name": "mail", "position": 3})
        ledger.let_go(3)

    def test_ended_rules_need_nothing(self):
        _, ledger = ruled(mail=MAIL)
        caught(self, Needed, ledger.let_go, 5)
        ledger.end("mail")
        ledger.let_go(5)
        self.assertEqual((ledger.rules(), ledger.due("mail")), ([], []))

    def test_a_rule_that_counts_from_later_on(self):
        _, ledger = ruled()
        ledger.rule("mail", MAIL, position=4)
        ledger.let_go(4)
        self.assertEqual(caught(self, Needed, ledger.let_go, 5), {"name": "mail", "position": 4})
        self.assertEqual(ledger.due("mail"), [(4, (50, "to", "a"))])

    def test_at_each_step_of_it(self):
        for signs in (0, 1, 12, 9999):
            for step in range(200):
                store, ledger = self.setting()
                ahead = told(ledger)
                rows = len(store.rows())
                first = store.steps()
                store.fall_at(first + step, signs=signs)
                found = answer(ledger.let_go, 3)
                opened = Ledger(Store(store.rows()))
                if opened.generation() == 0:
                    self.assertEqual(told(opened), ahead)
                    opened.let_go(3)
                else:
                    self.assertEqual(opened._store.rows()[0].split('"')[1], "new")
                wanted = still_told(ahead, 3)
                behind = told(opened)
                self.assertEqual({key: behind[key] for key in wanted}, wanted)
                self.assertEqual((opened.kept(), opened.generation()), (3, 1))
                if found[0] == "told":
                    self.assertEqual((store.is_up(), store.steps()), (True, first + step))
                    break
                self.assertEqual(found, ("refused", "Fell", {"step": first + step}))
                self.assertLess(opened._store.steps(), rows + 200)
            self.assertLess(step, 199)
            self.assertGreater(step, 10)

    def test_many_events_that_stay(self):
        store, ledger = furnished()
        for _ in range(3):
            ledger.tell([bill(at, at, "a") for at in range(20)])
        events = ledger.events(0, 60)
        for position, batches in ((1, [20, 20, 19]), (20, [20, 20]), (39, [20, 1]), (59, [1]), (60, [])):
            ledger.let_go(position)
            self.assertEqual([entry[3] for entry in entries(store) if entry[0] == "begin"], batches)
            self.assertEqual(ledger.events(position, 60), events[position:])
            self.assertEqual(told(Ledger(Store(store.rows()))), told(ledger))

    def test_strange_batches_behind_it(self):
        _, ledger = self.setting()
        ledger.let_go(1)
        caught(self, Strange, ledger.tell, [("bill", 1, None)])
        self.assertEqual(ledger.length(), 10)


if __name__ == "__main__":
    unittest.main()
