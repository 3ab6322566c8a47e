"""The desk: each row, its answer, and each way in which it is none. [36]"""

import inspect
import random
import unittest

from eventledger import desk as module
from eventledger.desk import Desk
from eventledger.errors import (
    BadName, BadProjection, BadRule, BadStep, Beyond, Fell, Gone, Known, Needed, NoAsk, NoKind, NoName, NoVersion,
    NoWay, Pending, Strange)
from eventledger.tree import leaf, root_of
from eventledger.values import shown
from telling import FORMS, UPCASTS
from test_kinds import Hostile, caught
from test_ledger import BILL, CELLS, MOVE, NOTE, counting

VIEW = (("bill", 2),), CELLS, (("bill", (), (("field", "who"),), (("add", "p", ("field", "no")),)),)
MAIL = ("bill", 2, (), (("field", "no"),))


def row(word, *things):
    """A row of which what is no text is written as a value, and texts stand as they are."""
    return " ".join([word, *(thing if isinstance(thing, str) else shown(thing) for thing in things)])


def furnished_desk():
    desk = Desk()
    for (kind, _), form in FORMS.items():
        desk.say(row("form", kind, form))
    for (kind, start, end), steps in UPCASTS.items():
        desk.say(row("upcast", kind, start, end, tupled(steps)))
    return desk


def tupled(thing):
    return tuple(tupled(part) for part in thing) if isinstance(thing, (list, tuple)) else thing


def bill(no, who="a"):
    return ("bill", 2, (who, no, 7, "n"))


class AnswersTest(unittest.TestCase):
    def setUp(self):
        self.desk = furnished_desk()

    def assert_says(self, told, word, *things):
        self.assertEqual(self.desk.say(row(word, *things)), told)

    def test_forms_and_upcasts(self):
        desk = Desk()
        self.assertEqual(desk.say('form bill (("no" "code"))'), "1")
        self.assertEqual(desk.say('form bill (("no" "code"))'), "2")
        self.assertEqual(desk.say('form a (("no" "code"))'), "1")
        self.assertEqual(desk.say('upcast bill 1 2 (("scale" "no" 2 -1))'), "ok")
        caught(self, BadName, desk.say, 'form Bill (("no" "code"))')
        caught(self, BadName, desk.say, 'form 5 5')
        caught(self, Strange, desk.say, 'form bill 5')
        caught(self, NoKind, desk.say, "upcast zz 1 2 ()")
        caught(self, NoVersion, desk.say, "upcast bill 0 2 ()")
        self.assertEqual(desk.say('form bill (("no" "code"))'), "3")
        self.assertEqual(caught(self, BadStep, desk.say, "upcast bill 1 3 5"), {"at": 0})

    def test_telling(self):
        self.assert_says("0", "tell", (BILL, MOVE))
        self.assert_says("2", "tell", (NOTE,))
        self.assert_says("3", "length")
        self.assert_says(shown(BILL), "event", 0)
        self.assert_says('("note" 1 ("Hi!"))', "event", 2)
        self.assert_says(shown(root_of([leaf(at, event) for at, event in enumerate((BILL, MOVE, NOTE))])), "root")
        self.assertEqual(caught(self, Beyond, self.desk.say, "event 3"), {"position": 3})
        caught(self, Strange, self.desk.say, "tell ()")
        caught(self, Strange, self.desk.say, row("tell", (NOTE,) * 21))
        caught(self, NoKind, self.desk.say, 'tell (("" 0 ()))')
        caught(self, Strange, self.desk.say, 'tell (("note" 1 ()))')
        self.assert_says("3", "length")

    def test_tables(self):
        self.assert_says("ok", "project", "view", VIEW)
        self.assert_says("()", "table", "view")
        self.desk.say(row("tell", (bill(10, "b"), bill(9, "ab"), bill(2, "b"), bill(1, "a"))))
        self.assert_says('((("a") (1)) (("ab") (9)) (("b") (12)))', "table", "view")
        self.assert_says('((("b") (10)))', "table", "view", 1)
        self.assert_says("()", "table", "view", 0)
        self.assert_says("ok", "snapshot", "view", 2)
        self.assert_says("ok", "snapshot", "view", 2)
        self.assertEqual(caught(self, Beyond, self.desk.say, "table view 5"), {"position": 5})
        self.assertEqual(caught(self, NoName, self.desk.say, "table cost"), {"name": "cost"})
        self.assertEqual(caught(self, NoName, self.desk.say, "table 5"), {"name": "5"})
        self.assertEqual(caught(self, Known, self.desk.say, "project view 5"), {"name": "view"})
        self.assertEqual(caught(self, BadProjection, self.desk.say, "project cost 5"), {"part": "reads"})
        caught(self, Beyond, self.desk.say, "snapshot view 5")

    def test_keys_go_by_their_writings(self):
        one = ("bill", (), (("field", "no"),), (("add", "p", ("number", 1)),))
        self.desk.say(row("project", "view", ((("bill", 2),), CELLS, (one,))))
        self.desk.say(row("tell", tuple(bill(no) for no in (10, 9, -1, 100, 2))))
        self.assert_says("(((-1) (1)) ((10) (1)) ((100) (1)) ((2) (1)) ((9) (1)))", "table", "view")

    def test_redefining(self):
        self.desk.say(row("project", "view", VIEW))
        self.assert_says("same", "redefine", "view", ((("bill", 2), ("note", 1)), *VIEW[1:]))
        self.assert_says("differ", "redefine", "view", counting(("bill", 2)))
        self.assert_says("()", "table", "view")
        caught(self, NoName, self.desk.say, "redefine cost 5")

    def test_rules(self):
        self.assert_says("ok", "rule", "mail", MAIL)
        self.desk.say(row("tell", (bill(1), NOTE, bill(2), bill(3))))
        self.assert_says("ok", "rule", "more", MAIL)
        self.assert_says("()", "book")
        self.assert_says("1", "send", "yn")
        self.assert_says('(("mail" 0 (1)))', "book")
        self.assertEqual(caught(self, Pending, self.desk.say, "end mail"), {"position": 2})
        self.assertEqual(caught(self, Needed, self.desk.say, "letgo 3"), {"name": "mail", "position": 2})
        self.assert_says("0", "send", "l")
        self.assert_says('(("mail" 0 (1)) ("mail" 2 (2)))', "book")
        self.assert_says("1", "send", "yll")
        self.assert_says('(("mail" 0 (1)) ("mail" 2 (2)) ("mail" 3 (3)))', "book")
        self.assert_says("1", "send", "yyyyyy")
        self.assert_says('(("mail" 0 (1)) ("mail" 2 (2)) ("mail" 3 (3)))', "book")
        self.assert_says("ok", "end", "mail")
        caught(self, NoName, self.desk.say, "end mail")
        caught(self, NoName, self.desk.say, "end zz")
        self.assertEqual(caught(self, BadRule, self.desk.say, "rule far 5"), {})

    def test_no_more_are_sent_than_answers(self):
        self.desk.say(row("rule", "mail", MAIL))
        self.desk.say(row("tell", tuple(bill(no) for no in range(9))))
        rows = int(self.desk.say("rows"))
        self.assert_says("2", "send", "yy")
        self.assert_says(str(rows + 4), "rows")
        self.assert_says("0", "send", "n")
        self.assert_says(str(rows + 5), "rows")
        self.assert_says("1", "send", "yl")
        self.assertEqual(self.desk.say("book").count('"mail"'), 4)

    def test_letting_go(self):
        self.desk.say(row("project", "view", VIEW))
        self.desk.say(row("tell", (bill(1), bill(2), bill(3))))
        root = self.desk.say("root")
        self.assert_says("ok", "letgo", 2)
        self.assert_says("ok", "letgo", 1)
        self.assert_says("3", "length")
        self.assert_says(root, "root")
        self.assert_says('((("a") (6)))', "table", "view")
        self.assertEqual(caught(self, Gone, self.desk.say, "event 1"), {"position": 1})
        self.assertEqual(caught(self, Gone, self.desk.say, "table view 1"), {"position": 1})
        self.assertEqual(caught(self, Beyond, self.desk.say, "letgo 4"), {"position": 4})

    def test_falling_and_opening(self):
        self.desk.say(row("rule", "mail", MAIL))
        rows = int(self.desk.say("rows"))
        for steps, signs, more in ((0, 0, 0), (0, 5, 0), (1, 5, 0), (2, 0, 0), (2, 9999, 3)):
            self.assert_says("ok", "fall", steps, signs)
            found = caught(self, Fell, self.desk.say, row("tell", (bill(1),)))
            for told in ("length", "root", "event 0", "table view", "letgo 0", "send y", "end mail"):
                self.assertEqual(caught(self, Fell, self.desk.say, told), found)
            self.assert_says("()", "book")
            self.assert_says(str(rows + steps + (1 if signs else 0)), "rows")
            self.assert_says("ok", "open")
            self.assert_says(str(rows + more), "rows")
        self.assert_says("1", "length")
        self.assert_says("ok", "fall", 3, 0)
        self.assert_says("1", "tell", (bill(2),))
        caught(self, Fell, self.desk.say, row("tell", (bill(1),)))
        self.assert_says("ok", "open")
        self.assert_says("2", "length")
        self.assert_says("ok", "fall", 0, 0)
        self.assert_says("ok", "fall", 999, 0)
        self.assert_says("2", "tell", (bill(1),))
        self.assert_says("ok", "open")

    def test_falls_behind_so_many_more_steps(self):
        for steps in range(4):
            desk = furnished_desk()
            desk.say("open")
            desk.say(row("form", "a", FORMS[("note", 1)]))
            desk.say(f"fall {steps} 0")
            for _ in range(steps):
                desk.say(row("form", "a", FORMS[("note", 1)]))
            self.assertEqual(caught(self, Fell, desk.say, row("form", "a", FORMS[("note", 1)])), {"step": steps + 1})

    def test_the_book_stays(self):
        self.desk.say(row("rule", "mail", MAIL))
        self.desk.say(row("tell", (bill(1), bill(2))))
        self.desk.say("fall 1 9")
        caught(self, Fell, self.desk.say, "send yy")
        self.assert_says('(("mail" 0 (1)))', "book")
        self.assert_says("ok", "open")
        self.assert_says('(("mail" 0 (1)))', "book")
        # It was taken already: the sink says yes, and has it once.
        self.assert_says("2", "send", "yy")
        self.assert_says('(("mail" 0 (1)) ("mail" 1 (2)))', "book")

    def test_two_desks(self):
        other = Desk()
        self.desk.say(row("tell", (NOTE,)))
        self.assertEqual((other.say("length"), other.say("rows"), other.say("book")), ("0", "0", "()"))
        self.assert_says("1", "length")


class NoAskTest(unittest.TestCase):
    def setUp(self):
        self.desk = furnished_desk()
        self.desk.say(row("project", "view", VIEW))
        self.desk.say(row("rule", "mail", MAIL))
        self.desk.say(row("tell", (bill(1), NOTE)))

    def assert_none(self, told):
        rows = self.desk.say("rows")
        self.assertIs(caught(self, NoAsk, self.desk.say, told)["row"], told)
        self.assertEqual(self.desk.say("rows"), rows)

    def test_no_texts(self):
        for told in (None, 5, True, b"length", ["length"], ("length",), {}, Hostile(), object()):
            self.assert_none(told)

    def test_signs_that_texts_have_not(self):
        for told in ("length\n", "\nlength", "table vi\u00e9w", 'tell (("note" 1 ("50%")))', "form a\tb 5", "end \x7f"):
            self.assert_none(told)

    def test_words(self):
        for told in ("", " ", "Length", "len", "lengths", "letgo2", "TELL ()", "(", "say", "let_go 1", "table", "event",
                     "table ", "end ", "send ", "form  5", "table  1", "snapshot  1"):
            self.assert_none(told)

    def test_a_blank_too_many(self):
        good = ('form a (("n" "code"))', "upcast bill 1 2 ()", 'tell (("note" 1 ("a")))', "project a ((() ()))",
                "redefine view ()", "rule more ()", "end mail", "snapshot view 1", "letgo 0", "send y", "table view",
                "table view 1", "length", "root", "event 0", "book", "rows", "fall 5 5", "open")
        for told in good:
            for at, sign in enumerate(told):
                if sign == " " and '"' not in told[:at]:
                    self.assert_none(told[:at] + " " + told[at:])
            self.assert_none(" " + told)
            self.assert_none(told + " ")

    def test_how_many_things(self):
        for told in (
            "form", "form a", "upcast a", "upcast a 1", "upcast a 1 2", "tell", "project", "project a", "redefine a",
            "rule a", "end", "end a b", "snapshot", "snapshot view", "snapshot view 1 2", "letgo", "letgo 1 2", "send",
            "send y n",
            "table", "table view 1 2", "length 1", "root 1", "event", "event 1 2", "book a", "rows 1", "fall", "fall 1",
            "fall 1 2 3", "open 1", "tell () ()", "form a 5 5", "upcast a 1 2 3 4",
        ):
            self.assert_none(told)

    def test_numbers(self):
        for number in ("00", "01", "-1", "-0", "+1", "1.0", "a", '"1"', "(1)", "-", "+", "!", "1" * 41, "0x1", "1_0"):
            for told in (f"upcast bill {number} 2 ()", f"upcast bill 1 {number} ()", f"snapshot view {number}",
                         f"letgo {number}", f"table view {number}", f"event {number}", f"fall {number} 0",
                         f"fall 0 {number}"):
                self.assert_none(told)
        caught(self, Beyond, self.desk.say, "event " + "9" * 40)
        caught(self, NoVersion, self.desk.say, "upcast bill 0 0 5")

    def test_values(self):
        for value in ("", "a", "(", ")", "()x", '"', '"a', "00", "-0", "( )", "(1  2)", "5 ", '""""""x', "None", "[]"):
            for word in ("form a", "upcast bill 1 2", "tell", "project a", "redefine view", "rule a"):
                self.assert_none(f"{word} {value}")

    def test_what_is_told(self):
        for value in (
            "5", "-", '"a"', "(5)", "(())", '(("note" 1))', '(("note" 1 () 1))', '((5 1 ()))', '(("note" "1" ()))',
            '(("note" + ()))', '(("note" 1 5))', '(("note" 1 -))', '(("note" 1 ("a")) 5)', '("note" 1 ("a"))',
        ):
            self.assert_none(f"tell {value}")
        caught(self, NoVersion, self.desk.say, 'tell (("note" -1 ()))')

    def test_what_a_sink_does(self):
        for answers in ("Y", "x", "yx", "y-", "5", "()", "yny "):
            self.assert_none(f"send {answers}")

    def test_goes_ahead_of_the_ledger(self):
        self.desk.say("fall 0 0")
        caught(self, Fell, self.desk.say, row("tell", (NOTE,)))
        for told in ("tell 5", "event -1", "length 1", "x"):
            self.assertEqual(caught(self, NoAsk, self.desk.say, told), {"row": told})
        caught(self, Fell, self.desk.say, "length")

    def test_names_that_are_none(self):
        for name in ("A", "5", "()", '"a"', "abcdefghijklm", "~"):
            caught(self, BadName, self.desk.say, f"form {name} 5")
            caught(self, BadName, self.desk.say, f"project {name} 5")
            caught(self, BadName, self.desk.say, f"rule {name} 5")
            self.assertEqual(caught(self, NoKind, self.desk.say, f"upcast {name} 1 2 5"), {"kind": name})
            for told in (f"end {name}", f"snapshot {name} 0", f"table {name}", f"table {name} 7", f"redefine {name} 5"):
                self.assertEqual(caught(self, NoName, self.desk.say, told), {"name": name})

    def test_rows_by_chance(self):
        """Whatever is told, it answers with a text or refuses as it is told."""
        chance = random.Random(121)
        words = ("form", "upcast", "tell", "project", "redefine", "rule", "end", "snapshot", "letgo", "send", "table",
                 "length", "root", "event", "book", "rows", "fall", "open", "bill", "view", "mail", "0", "1", "2", "00",
                 "y", "yn", "()", "5", '"a"', '(("note" 1 ("a")))', "", "-", '(("n" "code"))', shown(VIEW), shown(MAIL))
        for _ in range(3000):
            told = " ".join(chance.choice(words) for _ in range(chance.randint(1, 4)))
            try:
                self.assertIsInstance(self.desk.say(told), str)
            except (ValueError, LookupError, ArithmeticError, RuntimeError) as refusal:
                self.assertEqual(type(refusal).__module__, "eventledger.errors", told)
                if isinstance(refusal, Fell):
                    self.desk.say("open")


class InterfaceTest(unittest.TestCase):
    def test_signature(self):
        self.assertEqual(str(inspect.signature(Desk)), "()")
        self.assertEqual(str(inspect.signature(vars(Desk)["say"])), "(self, row)")
        self.assertEqual(Desk.__module__, module.__name__)
        self.assertEqual(Desk().say(row="length"), "0")

    def test_ways(self):
        desk = Desk()
        for version in (1, 2):
            desk.say(row("form", "bill", FORMS[("bill", version)]))
        desk.say(row("project", "view", VIEW))
        self.assertEqual(caught(self, NoWay, desk.say, row("tell", (BILL,))), {"early": 1, "late": 2})


if __name__ == "__main__":
    unittest.main()
