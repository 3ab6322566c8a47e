"""Opening: of rows behind each step, cut short, changed; and falls amid whole histories. [4] [25] [33]"""

import random
import unittest

from asking import answer, entries, told
from eventledger.errors import Fell, Flipped
from eventledger.ledger import Ledger
from eventledger.rows import body_of, framed
from eventledger.store import Store
from eventledger.values import shown
from telling import FORMS, UPCASTS, some_events, some_projection, table_as_told
from test_effects import ALL, EVENTS, MAIL, Sink, yes
from test_kinds import caught
from test_ledger import BILL, CELLS, MOVE, NOTE, counting, furnished
from test_tables import bill


class Recording(Store):
    """A store that keeps its rows as they stood behind each step."""

    def __init__(self, rows=()):
        Store.__init__(self, rows)
        self.states = [self.rows()]

    def write(self, row):
        Store.write(self, row)
        self.states.append(self.rows())

    def cut(self):
        Store.cut(self)
        self.states.append(self.rows())

    def let_go(self, many):
        Store.let_go(self, many)
        self.states.append(self.rows())


def shapes():
    """The deeds that tell all forms and upcasts."""
    deeds = [("form", kind, form) for (kind, _), form in FORMS.items()]
    return deeds + [("upcast", *pair, steps) for pair, steps in UPCASTS.items()]


HISTORY = [
    *shapes(), ("project", "view", counting(("bill", 2), ("note", 1))), ("rule", "mail", MAIL),
    ("tell", EVENTS, {"teller": "ann", "number": 1}), ("snapshot", "view"), ("rule", "far", ALL, {"position": 3}),
    ("send", ("yes", "no", "lost", "yes")), ("tell", [MOVE, NOTE]), ("project", "cost", counting(("move", 2))),
    ("redefine", "view", ((("bill", 2), ("move", 2), ("note", 1)), CELLS, counting(("bill", 2), ("note", 1))[2])),
    ("snapshot", "view", {"at": 1}), ("send", ("yes", "yes", "yes", "yes", "yes", "yes")), ("let_go", 2),
    ("tell", [bill(5, 5, "a")] * 3, {"teller": "ann", "number": 2}), ("send", ("no", "yes", "no")),
    ("tell", [NOTE], {"expect": 10}), ("snapshot", "cost", {"at": 4}), ("send", ("yes",) * 9), ("end", "far"),
    ("let_go", 7), ("form", "never", FORMS[("note", 1)]), ("tell", [BILL, NOTE], {"teller": "bob", "number": 1}),
    ("rule", "more", ALL), ("let_go", 9),
]


def do(ledger, deed, book):
    """Do a deed, a tuple; what is told."""
    word, *arguments = deed
    more = arguments.pop() if isinstance(arguments[-1], dict) else {}
    if word == "send":
        return ledger.send(keeping(book, arguments[0]), most=len(arguments[0]))
    return getattr(ledger, word)(*arguments, **more)


def keeping(book, answers):
    """A sink that keeps to [31] and answers as told."""
    answers = list(answers)

    def sink(rule, position, payload):
        said = answers.pop(0)
        last = max([at for name, at, _ in book if name == rule], default=-1)
        if said != "no" and position > last:
            book.append((rule, position, payload))
        return said

    return sink


def past(history=HISTORY):
    """A store with the rows behind each step, and for each step the answers that may be told behind it."""
    store = Recording()
    ledger, book, marks = Ledger(store), [], [(0, told(Ledger(Store())))]
    for deed in history:
        do(ledger, deed, book)
        marks.append((store.steps(), told(ledger)))
    return store, marks, book


class StepsTest(unittest.TestCase):
    def test_of_the_rows_behind_each_step(self):
        store, marks, _ = past()
        for step, rows in enumerate(store.states):
            for rows_there in (rows, *parts(store.states, step)):
                self.assert_opens(rows_there, marks, step)

    def assert_opens(self, rows, marks, step):
        """What is opened is as behind the last deed that was done, or as within a sending."""
        opened = Store(rows)
        found = told(Ledger(opened))
        ahead = [answers for steps, answers in marks if steps <= step]
        behind = [answers for steps, answers in marks if steps > step]
        if found != ahead[-1] and not (behind and found == behind[0]):
            # Within a sending each entry counts: no batch, table or snapshot is another one.
            self.assertEqual({key: found[key] for key in found if key[0] not in ("due", "intent")},
                             {key: ahead[-1][key] for key in ahead[-1] if key[0] not in ("due", "intent")})
        self.assertEqual(told(Ledger(Store(opened.rows()))), found)
        self.assertEqual(Store(opened.rows()).steps(), 0)

    def test_the_rows_that_count_stay_as_they_are(self):
        store, marks, _ = past()
        steps = {steps for steps, _ in marks}
        for step, rows in enumerate(store.states):
            opened = Store(rows)
            Ledger(opened)
            if step in steps:
                self.assertEqual((opened.rows(), opened.steps()), (rows, 0))

    def test_one_sign_another_one(self):
        store, marks, _ = past(HISTORY[:-12])
        rows = store.rows()
        chance = random.Random(111)
        last_whole = told(Ledger(Store(rows[:-1])))
        for at, row in enumerate(rows):
            for place in {0, len(row) // 2, len(row) - 1, chance.randrange(len(row))}:
                sign = chance.choice([sign for sign in "0aZ ~" if sign != row[place]])
                changed = [*rows[:at], row[:place] + sign + row[place + 1:], *rows[at + 1:]]
                opened = Store(changed)
                if at == len(rows) - 1:
                    self.assertEqual(told(Ledger(opened)), last_whole)
                else:
                    self.assertEqual(caught(self, Flipped, Ledger, opened), {"row": at})
                    self.assertEqual((opened.rows(), opened.steps()), (changed, 0))

    def test_falls_at_each_step(self):
        wanted, marks, final_book = past()
        final = marks[-1][1]
        for step in range(wanted.steps()):
            for signs in (0, 17, 99999):
                store = Store(fall=step, signs=signs)
                ledger, book = Ledger(store), []
                self.go_on(ledger, store, HISTORY, book, step)
                # Each effect once, those of a rule in the order of the log.
                self.assertEqual(sorted(book, key=by_rule), sorted(final_book, key=by_rule))
                self.assertEqual(told(self.last), final)

    def go_on(self, ledger, store, history, book, step):
        """Do the deeds up to the fall, then the rest of them on the rows that are left."""
        self.last = ledger
        for at, deed in enumerate(history):
            found = answer(do, self.last, deed, book)
            if found[0] == "told":
                continue
            self.assertEqual(found, ("refused", "Fell", {"step": step}))
            self.assertEqual(answer(self.last.length), found)
            self.last = Ledger(Store(store.rows()))
            again = done_again(self.last, store.rows(), history, at)
            if again is not None:
                do(self.last, again, book)


def by_rule(things):
    return things[0]


def done_again(ledger, ledger_rows, history, at):
    """The deed that is to be done behind a fall amid it; None where it was done."""
    deed = history[at]
    word = deed[0]
    if word == "tell":
        told_ahead = sum(len(other[1]) for other in history[:at + 1] if other[0] == "tell")
        return None if ledger.length() == told_ahead else deed
    if word in ("project", "rule"):
        names = ledger.projections() + ledger.rules()
        return None if deed[1] in names else deed
    if word == "form":
        forms = [other for other in history[:at + 1] if other[:2] == deed[:2]]
        return None if ledger.versions(deed[1]) == len(forms) else deed
    if word == "upcast":
        found = answer(Ledger(Store(ledger_rows)).upcast, *deed[1:])
        return None if found == ("refused", "Twice", {}) else deed
    if word == "send":
        # All that may be sent by then; what was sent ahead of the fall isn't sent again.
        return sent_again(ledger, history, at)
    if word == "end":
        return None if deed[1] not in ledger.rules() else deed
    return deed


def sent_again(ledger, history, at):
    """A sending that leaves what the history's one leaves, by a ledger that never fell."""
    wanted = Ledger(Store())
    for deed in history[:at + 1]:
        do(wanted, deed, [])
    answers = []
    for name in ledger.rules():
        left = len(wanted.due(name))
        many = len(ledger.due(name)) - left
        answers += ["yes"] * many
        if left:
            intent = wanted.intent(name)
            if intent is None:
                break
            answers.append("lost")
    return ("send", tuple(answers)) if answers else None


def parts(states, step):
    """The rows behind a step with the next row written in part, where a row is written next."""
    if step + 1 == len(states) or len(states[step + 1]) <= len(states[step]):
        return []
    row = states[step + 1][-1]
    return [[*states[step], row[:many]] for many in (1, len(row) // 2, len(row) - 1)]


class CuttingTest(unittest.TestCase):
    def setUp(self):
        self.store, self.ledger = furnished()
        self.ledger.tell([NOTE])
        self.rows = self.store.rows()
        self.answers = told(self.ledger)

    def opened(self, rows, steps, left=None):
        """The ledger opened of the rows, which takes so many steps."""
        store = Store(rows)
        ledger = Ledger(store)
        self.assertEqual(store.steps(), steps)
        self.assertEqual(store.rows(), self.rows if left is None else left)
        return ledger

    def test_of_no_rows(self):
        store = Store()
        self.assertEqual(told(Ledger(store)), told(Ledger(Store([]))))
        self.assertEqual(store.steps(), 0)
        self.opened(["abc"], 1, [])

    def test_a_last_row_that_is_none(self):
        for row in ("", "5", "3 5 abc", framed(shown(("done",)))[:-1], "x" * 4000):
            self.assertEqual(told(self.opened([*self.rows, row], 1)), self.answers)

    def test_a_batch_without_its_done(self):
        batch = [framed(shown(entry)) for entry in (
            ("begin", "ann", 1, 3), ("event", *NOTE), ("event", *BILL), ("event", *MOVE))]
        for many in range(1, 5):
            self.assertEqual(told(self.opened([*self.rows, *batch[:many]], many)), self.answers)
            self.assertEqual(told(self.opened([*self.rows, *batch[:many], "no row"], many + 1)), self.answers)

    def test_a_new_without_its_head(self):
        self.ledger.tell([NOTE, BILL])
        self.rows, self.answers = self.store.rows(), told(self.ledger)
        steps = self.store.steps()
        recording = Recording(self.rows)
        Ledger(recording).let_go(1)
        new = recording.states[-2][len(self.rows):]
        for many in range(1, len(new)):
            self.assertEqual(told(self.opened([*self.rows, *new[:many]], many)), self.answers)
        self.assertEqual(self.store.steps(), steps)
        ledger = self.opened([*self.rows, *new], 1, new)
        self.assertEqual((ledger.kept(), ledger.generation()), (1, 1))
        # What is ahead of it isn't looked at.
        self.opened(["no row", *self.rows[3:], *new], 1, new)
        self.opened(["no row", *new], 1, new)
        self.opened([*new, *new], 1, new)
        with self.assertRaises(Flipped) as found:
            Ledger(Store([*self.rows, *new[:3], "no row", *new[3:]]))
        self.assertEqual(found.exception.row, len(self.rows) + 3)

    def test_flipped_goes_ahead_of_cutting(self):
        batch = [framed(shown(entry)) for entry in (("begin", None, None, 2), ("event", *NOTE), ("event", *BILL))]
        for at in range(len(batch) - 1):
            rows = [*self.rows, *batch]
            rows[len(self.rows) + at] = "no row"
            store = Store(rows)
            self.assertEqual(caught(self, Flipped, Ledger, store), {"row": len(self.rows) + at})
            self.assertEqual((store.rows(), store.steps()), (rows, 0))
            # The last row, where it is none, is cut off all the same.
            store = Store([*rows, "5 5"])
            self.assertEqual(caught(self, Flipped, Ledger, store), {"row": len(self.rows) + at})
            self.assertEqual((store.rows(), store.steps()), (rows, 1))
        self.assertEqual(caught(self, Flipped, Ledger, Store(["no row", "no row", *self.rows])), {"row": 0})

    def test_flipped_in_a_new(self):
        self.ledger.tell([NOTE, BILL])
        recording = Recording(self.store.rows())
        Ledger(recording).let_go(2)
        whole = recording.states[-2]
        first = len(self.store.rows())
        for at in range(first, len(whole) - 1):
            store = Store([*whole[:at], whole[at][:-1], *whole[at + 1:]])
            self.assertEqual(caught(self, Flipped, Ledger, store), {"row": at})
            self.assertEqual(store.steps(), 0)
            store = Store([whole[at][:-1] if other == at else whole[other] for other in range(first, len(whole))])
            self.assertEqual(caught(self, Flipped, Ledger, store), {"row": at - first})
        store = Store([*whole[:-1], whole[-1][:-1]])
        self.assertEqual((Ledger(store).generation(), store.rows()), (0, self.store.rows()))

    def test_falls_amid_opening(self):
        batch = [framed(shown(entry)) for entry in (("begin", None, None, 2), ("event", *NOTE))]
        rows = [*self.rows, *batch, "no row"]
        for step in range(5):
            store = Store(rows, fall=step, signs=3)
            if step == 3:
                Ledger(store)
                break
            self.assertEqual(caught(self, Fell, Ledger, store), {"step": step})
            self.assertEqual(store.rows(), rows[:len(rows) - step])
            self.assertEqual(told(Ledger(Store(store.rows()))), self.answers)
        recording = Recording(self.rows)
        Ledger(recording).let_go(1)
        store = Store(recording.states[-2], fall=0)
        self.assertEqual(caught(self, Fell, Ledger, store), {"step": 0})
        self.assertEqual(Ledger(Store(store.rows())).generation(), 1)

    def test_a_batch_that_falls_at_its_done(self):
        for signs, length in ((0, 1), (5, 1), (9999, 3)):
            store = Store(self.rows)
            ledger = Ledger(store)
            store.fall_at(3, signs=signs)
            caught(self, Fell, ledger.tell, [NOTE, BILL], teller="ann", number=1)
            ledger = Ledger(Store(store.rows()))
            self.assertEqual((ledger.length(), ledger.last_number("ann")), (length, 1 if length == 3 else 0))
            self.assertEqual(ledger.tell([NOTE, BILL], teller="ann", number=1), 1)
            self.assertEqual(ledger.length(), 3)

    def test_a_fall_told_behind_the_opening(self):
        store, ledger = Store(self.rows), None
        ledger = Ledger(store)
        store.fall_at(1)
        ledger.form("a", FORMS[("note", 1)])
        caught(self, Fell, ledger.form, "a", FORMS[("note", 1)])
        self.assertEqual(Ledger(Store(store.rows())).versions("a"), 1)


class ChanceTest(unittest.TestCase):
    def test_histories_by_chance(self):
        for seed in range(40):
            self.history(random.Random(seed))

    def history(self, chance):
        store = Recording()
        ledger = Ledger(store)
        for word, *arguments in shapes():
            getattr(ledger, word)(*arguments)
        log, shots, definitions = [], {}, {}
        for _ in range(25):
            deed = chance.choice(("tell", "tell", "tell", "project", "snapshot", "redefine", "let_go", "open", "fall"))
            name = chance.choice(("view", "cost", "far"))
            if deed == "tell":
                events = self.events(chance, definitions)
                if events and ledger.tell(events) == len(log):
                    log += events
            elif deed == "project" and name not in definitions and ledger.kept() == 0:
                definition = some_projection(chance, rules=3)
                if answer(ledger.project, name, definition)[0] == "told":
                    definitions[name], shots[name] = definition, set()
            elif deed == "snapshot" and name in definitions:
                position = chance.randint(ledger.kept(), len(log))
                shots[name].add(ledger.snapshot(name, at=position))
            elif deed == "redefine" and name in definitions:
                definition = some_projection(chance, cells=definitions[name][1], rules=3)
                found = answer(ledger.redefine, name, definition)
                if found[0] == "told":
                    definitions[name] = definition
                    shots[name] = shots[name] if found[1] == ("same",) else set()
            elif deed == "let_go" and chance.random() < 0.3:
                kept = ledger.kept()
                position = chance.randint(0, len(log))
                ledger.let_go(position)
                if position > kept:
                    for told_shots in shots.values():
                        told_shots.add(position)
            elif deed == "open":
                store = Recording(store.rows())
                ledger = Ledger(store)
            elif deed == "fall":
                store, ledger = self.fallen(chance, store, ledger, log, definitions)
            self.assert_tables(ledger, log, shots, definitions)

    def fallen(self, chance, store, ledger, log, definitions):
        """Tell events while the store falls; the ledger that is opened of its rows."""
        events = self.events(chance, definitions)
        if not events:
            return store, ledger
        store.fall_at(store.steps() + chance.randint(0, len(events) + 2), signs=chance.choice((0, 3, 9999)))
        answer(ledger.tell, events)
        store = Recording(store.rows())
        ledger = Ledger(store)
        if ledger.length() > len(log):
            log += events
        self.assertEqual(ledger.length(), len(log))
        return store, ledger

    def events(self, chance, definitions):
        """Events that all projections read."""
        told_events = []
        for event in some_events(chance, None, 6):
            if all(event[1] <= dict(definition[0]).get(event[0], 9) for definition in definitions.values()):
                told_events.append(event)
        return told_events

    def assert_tables(self, ledger, log, shots, definitions):
        kept = ledger.kept()
        self.assertEqual((ledger.length(), ledger.events(kept, len(log))), (len(log), log[kept:]))
        self.assertEqual(ledger.projections(), sorted(definitions))
        for name, definition in definitions.items():
            self.assertEqual(ledger.snapshots(name), sorted(shots[name]))
            for position in sorted({kept, len(log), *shots[name]}):
                wanted = table_as_told(definition, log[:position])
                self.assertEqual(ledger.table(name, at=position), wanted)
                for since in shots[name]:
                    if kept <= since <= position or since == position:
                        self.assertEqual(ledger.table(name, at=position, since=since), wanted)


class EntriesTest(unittest.TestCase):
    def test_each_row_is_an_entry(self):
        words = set()
        store, _, _ = past()
        for rows in store.states:
            for row in rows[-1:]:
                self.assertIsNotNone(body_of(row))
            words |= {entry[0] for entry in entries(Store(rows[-1:]))}
        self.assertEqual(words, {
            "form", "upcast", "begin", "event", "done", "projection", "snapshot", "rule", "intent", "sent", "end",
            "new", "let", "teller", "head"})

    def test_helpers(self):
        book = []
        sink = keeping(book, ("lost", "yes", "no"))
        self.assertEqual([sink("a", 1, ()), sink("a", 1, ()), sink("a", 2, ())], ["lost", "yes", "no"])
        self.assertEqual(book, [("a", 1, ())])
        self.assertEqual((Sink("yes")("a"), yes(1, 2, 3)), ("yes", "yes"))


if __name__ == "__main__":
    unittest.main()
