"""Whole histories by chance: with falls, openings and letting go all is as it is without them. [4]"""

import random
import unittest

from asking import NAMES, answer, stays, told
from eventledger.ledger import Ledger
from eventledger.store import Store
from telling import FORMS, some_events, some_projection
from test_opening import by_rule, shapes

RULES = (
    ("bill", 3, (), (("field", "no"), ("field", "due"))), ("bill", 3, (("who", "a"),), (("value", (1, None)),)),
    ("move", 2, (("day", 6),), (("field", "to"),)), ("note", 1, (), (("field", "text"),)),
    ("bill", 3, (("mark", 2), ("no", 1)), (("field", "mark"),)),
)


class Two:
    """A ledger that never falls, opens anew or lets go, and one that does."""

    def __init__(self, test, chance):
        self.test, self.chance = test, chance
        self.plain, self.store = Ledger(Store()), Store()
        self.ledger = Ledger(self.store)
        self.books = ([], [])
        self.turn = 0

    def do(self, word, *arguments, **more):
        """Do the deed by both; what the one that never falls tells."""
        wanted = answer(self.deed(self.plain, self.books[0], word), *arguments, **more)
        falls = self.chance.random() < 0.35
        if falls:
            self.store.fall_at(self.store.steps() + self.chance.randint(0, 6), signs=self.chance.choice((0, 4, 99999)))
        length = self.ledger.length()
        found = answer(self.deed(self.ledger, self.books[1], word), *arguments, **more)
        while found[:2] == ("refused", "Fell"):
            self.opens()
            if not self.was_done(word, arguments, length):
                found = answer(self.deed(self.ledger, self.books[1], word), *arguments, **more)
            else:
                found = wanted
        self.opens() if self.chance.random() < 0.2 else self.store.fall_at(None)
        if word != "send":
            self.test.assertEqual(found, wanted, (word, arguments, more))
        self.turn += 1
        return wanted

    def deed(self, ledger, book, word):
        return (lambda: ledger.send(self.sink(book))) if word == "send" else getattr(ledger, word)

    def sink(self, book):
        """A sink that keeps to [31], whose answers hang on the turn alone."""
        turn = self.turn

        def taking(rule, position, payload):
            said = ("yes", "yes", "no", None)[(turn * 5 + position * 3 + len(rule)) % 4]
            last = max([at for name, at, _ in book if name == rule], default=-1)
            if said != "no" and position > last:
                book.append((rule, position, payload))
            return said

        return taking

    def opens(self):
        self.store = Store(self.store.rows())
        self.ledger = Ledger(self.store)

    def was_done(self, word, arguments, length):
        """Whether the deed that fell is there all the same."""
        if word == "tell":
            return self.ledger.length() > length
        if word in ("form", "upcast"):
            count = len([0 for entry in self.ledger._state.shapes if entry[0] == word])
            return count == len([0 for entry in self.plain._state.shapes if entry[0] == word])
        if word in ("project", "rule"):
            return arguments[0] in self.ledger.projections() + self.ledger.rules()
        return word == "end" and arguments[0] not in self.ledger.rules()

    def let_go(self):
        position = self.chance.randint(0, self.plain.length())
        found = answer(self.ledger.let_go, position)
        due = [(name, at) for name in self.plain.rules() for at, _ in self.plain.due(name) if at < position]
        if due and position > self.ledger.kept():
            self.test.assertEqual(found, ("refused", "Needed", {"name": due[0][0], "position": due[0][1]}))
        else:
            self.test.assertEqual(found, ("told", None))

    def compare(self):
        test = self.test
        wanted, found = told(self.plain), told(self.ledger)
        kept = self.ledger.kept()
        for key, value in wanted.items():
            if key[0] == "table":
                self.compare_tables(key, value, found, kept)
            elif stays(key, kept, wanted):
                test.assertEqual(found[key], value, key)
        for name in self.plain.projections():
            shots = found["snapshots", name][1]
            test.assertLessEqual(set(wanted["snapshots", name][1]), set(shots))
            test.assertTrue(kept == 0 or kept in shots)
        book, other = self.books
        test.assertEqual(sorted(book, key=by_rule), sorted(other, key=by_rule))

    def compare_tables(self, key, value, found, kept):
        _, name, position, *since = key
        if value[0] == "refused" and value[1] != "NoSnapshot":
            self.test.assertEqual(found[key], value, key)
        elif not since and (position >= kept or position in found["snapshots", name][1]):
            self.test.assertEqual(found[key], value, key)
        elif since and value[0] == "told" and (since[0] >= kept or since[0] == position):
            self.test.assertEqual(found[key], value, key)
        elif since and found[key][0] == "told":
            self.test.assertEqual(found[key], answer(self.plain.table, name, at=position))


class HistoriesTest(unittest.TestCase):
    def test_histories(self):
        for seed in range(100):
            self.history(random.Random(seed))

    def history(self, chance):
        two = Two(self, chance)
        for word, *arguments in shapes():
            two.do(word, *arguments)
        numbers = {"ann": 0, "bob": 0}
        for at in range(24):
            word = chance.choice(("tell", "tell", "tell", "project", "rule", "snapshot", "redefine", "send", "send",
                                  "end", "let_go", "form"))
            name = chance.choice(NAMES)
            if word == "tell" and two.plain.length() < 24:
                self.tells(two, chance, numbers)
            elif word == "project" and two.ledger.kept() == 0:
                two.do("project", name, some_projection(chance, rules=3))
            elif word == "rule":
                position = chance.randint(two.ledger.kept(), two.plain.length())
                two.do("rule", name, chance.choice(RULES), position=position)
            elif word == "snapshot":
                position = chance.randint(two.ledger.kept(), two.plain.length())
                two.do("snapshot", name, at=position)
            elif word == "redefine" and two.ledger.kept() == 0 and name in two.plain.projections():
                self.redefines(two, chance, name)
            elif word == "send":
                two.do("send")
            elif word == "end":
                two.do("end", name)
            elif word == "let_go":
                two.let_go()
            elif word == "form":
                two.do("form", "never", FORMS[("note", 1)])
            if at % 6 == 5:
                two.compare()

    def tells(self, two, chance, numbers):
        teller = chance.choice((None, "ann", "bob"))
        events = some_events(chance, None, chance.randint(1, 4))
        if teller is None:
            two.do("tell", events)
            return
        wanted = two.do("tell", events, teller=teller, number=numbers[teller] + 1)
        if wanted[0] == "told":
            numbers[teller] += 1
            for ledger in (two.plain, two.ledger):
                self.assertEqual(answer(ledger.tell, events, teller=teller, number=numbers[teller]), wanted)
                self.assertEqual(ledger.last_number(teller), numbers[teller])

    def redefines(self, two, chance, name):
        cells = [view.definition[1] for at, view in two.plain._state.views.items() if at == name][0]
        definition = some_projection(chance, cells=cells, rules=3)
        wanted = answer(two.plain.redefine, name, definition)
        self.assertEqual(answer(two.ledger.redefine, name, definition), wanted)


if __name__ == "__main__":
    unittest.main()
