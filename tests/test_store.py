"""The store: rows, steps, and falls. [12]"""

import inspect
import random
import unittest

from eventledger import store as module
from eventledger.errors import Fell
from eventledger.store import Store

DEEDS = {
    "write": lambda store: store.write("new row"),
    "let_go": lambda store: store.let_go(1),
    "let_go none": lambda store: store.let_go(0),
    "let_go all": lambda store: store.let_go(3),
    "cut": lambda store: store.cut(),
}
BEHIND = {
    "write": ["one", "two", "three", "new row"],
    "let_go": ["two", "three"],
    "let_go none": ["one", "two", "three"],
    "let_go all": [],
    "cut": ["one", "two"],
}


class RowsTest(unittest.TestCase):
    def test_a_store_of_nothing(self):
        store = Store()
        self.assertEqual((store.rows(), store.steps(), store.is_up()), ([], 0, True))

    def test_rows_from_the_beginning(self):
        for rows in (["a"], ["a", "", "b b"], ("a", "b"), ()):
            store = Store(rows)
            self.assertEqual(store.rows(), list(rows))
            self.assertIs(type(store.rows()), list)
            self.assertEqual((store.steps(), store.is_up()), (0, True))

    def test_rows_are_written_behind_the_others(self):
        store = Store(["a"])
        for at, row in enumerate(["b", "", "c c", "b", "x" * 5000]):
            self.assertIsNone(store.write(row))
            self.assertEqual(store.steps(), at + 1)
        self.assertEqual(store.rows(), ["a", "b", "", "c c", "b", "x" * 5000])

    def test_first_rows_are_let_go(self):
        for many in range(4):
            store = Store(["a", "b", "c"])
            self.assertIsNone(store.let_go(many))
            self.assertEqual((store.rows(), store.steps()), (["a", "b", "c"][many:], 1))

    def test_none_are_let_go_of_none(self):
        store = Store()
        store.let_go(0)
        self.assertEqual((store.rows(), store.steps(), store.is_up()), ([], 1, True))

    def test_the_last_row_is_cut_off(self):
        store = Store(["a", "b", "c"])
        for at, rows in enumerate((["a", "b"], ["a"], [])):
            self.assertIsNone(store.cut())
            self.assertEqual((store.rows(), store.steps()), (rows, at + 1))

    def test_each_deed_is_a_step(self):
        for name, deed in DEEDS.items():
            store = Store(["one", "two", "three"])
            deed(store)
            self.assertEqual((store.rows(), store.steps(), store.is_up()), (BEHIND[name], 1, True), name)

    def test_deeds_by_chance(self):
        chance = random.Random(12)
        store, rows = Store(), []
        for step in range(500):
            word = chance.choice(("write", "write", "let_go", "cut"))
            if word == "write":
                store.write(str(step))
                rows.append(str(step))
            elif word == "let_go":
                many = chance.randint(0, min(3, len(rows)))
                store.let_go(many)
                rows = rows[many:]
            elif rows:
                store.cut()
                rows.pop()
            else:
                store.let_go(0)
            self.assertEqual((store.rows(), store.steps(), store.is_up()), (rows, step + 1, True))


class CopiesTest(unittest.TestCase):
    def test_rows_handed_in_changed_later(self):
        rows = ["a", "b"]
        store = Store(rows)
        rows.append("c")
        rows[0] = "x"
        self.assertEqual(store.rows(), ["a", "b"])

    def test_rows_handed_in_stay(self):
        rows = ["a", "b"]
        store = Store(rows)
        store.write("c")
        store.let_go(1)
        store.cut()
        store.cut()
        self.assertEqual(rows, ["a", "b"])

    def test_told_rows_changed(self):
        store = Store(["a", "b"])
        told = store.rows()
        told.append("c")
        told[0] = "x"
        self.assertEqual(store.rows(), ["a", "b"])

    def test_told_rows_stay(self):
        store = Store(["a", "b"], fall=3, signs=1)
        told = store.rows()
        store.write("c")
        store.let_go(1)
        store.cut()
        with self.assertRaises(Fell):
            store.write("d")
        self.assertEqual(told, ["a", "b"])
        self.assertIsNot(store.rows(), store.rows())

    def test_told_rows_changed_behind_a_fall(self):
        store = Store(["a"], fall=0, signs=1)
        with self.assertRaises(Fell):
            store.write("bc")
        store.rows().clear()
        self.assertEqual(store.rows(), ["a", "b"])

    def test_two_stores_side_by_side(self):
        rows = ["a"]
        one, other = Store(rows), Store(rows, fall=1, signs=2)
        third = Store()
        one.write("b")
        other.write("c")
        with self.assertRaises(Fell):
            other.write("long")
        one.write("d")
        third.let_go(0)
        self.assertEqual((one.rows(), one.steps(), one.is_up()), (["a", "b", "d"], 2, True))
        self.assertEqual((other.rows(), other.steps(), other.is_up()), (["a", "c", "lo"], 1, False))
        self.assertEqual((third.rows(), third.steps(), third.is_up()), ([], 1, True))

    def test_a_store_of_what_another_one_has(self):
        elder = Store(["a"], fall=1, signs=1)
        elder.write("b")
        with self.assertRaises(Fell):
            elder.write("cd")
        newer = Store(elder.rows())
        self.assertEqual((newer.rows(), newer.steps(), newer.is_up()), (["a", "b", "c"], 0, True))
        newer.cut()
        self.assertEqual((elder.rows(), newer.rows()), (["a", "b", "c"], ["a", "b"]))


class FallTest(unittest.TestCase):
    def test_at_each_sort_of_step(self):
        for name, deed in DEEDS.items():
            for signs in (0, 1, 3, 7, 8, 100):
                kept = ["new row"[:signs]] if name == "write" and signs else []
                for told_later in (False, True):
                    store = Store(["one", "two", "three"]) if told_later else Store(
                        ["one", "two", "three"], fall=0, signs=signs)
                    if told_later:
                        self.assertIsNone(store.fall_at(0, signs=signs))
                    self.assertTrue(store.is_up())
                    self.assert_falls(store, 0, deed)
                    self.assert_fallen(store, 0, ["one", "two", "three"] + kept)

    def test_without_a_number_of_signs_nothing_is_kept(self):
        store = Store(["a"], fall=0)
        self.assert_falls(store, 0, DEEDS["write"])
        self.assert_fallen(store, 0, ["a"])
        store = Store(["a"])
        store.fall_at(0)
        self.assert_falls(store, 0, DEEDS["write"])
        self.assert_fallen(store, 0, ["a"])

    def test_at_a_later_step(self):
        for fall in range(6):
            store = Store(["a"], fall=fall, signs=2)
            for step in range(fall):
                store.write(f"row {step}")
                self.assertEqual((store.steps(), store.is_up()), (step + 1, True))
            rows = ["a"] + [f"row {step}" for step in range(fall)]
            self.assertEqual(store.rows(), rows)
            self.assert_falls(store, fall, DEEDS["write"])
            self.assert_fallen(store, fall, rows + ["ne"])

    def test_steps_of_all_sorts_count(self):
        store = Store(["a", "b", "c", "d"], fall=4, signs=1)
        store.let_go(0)
        store.cut()
        store.let_go(1)
        store.write("e")
        self.assert_falls(store, 4, DEEDS["cut"])
        self.assert_fallen(store, 4, ["b", "c", "e"])

    def test_told_a_step_to_come(self):
        store = Store(["a"])
        store.write("b")
        store.fall_at(3, signs=1)
        store.write("c")
        store.cut()
        self.assert_falls(store, 3, DEEDS["write"])
        self.assert_fallen(store, 3, ["a", "b", "n"])

    def test_told_the_very_next_step(self):
        store = Store(["a"])
        store.write("b")
        store.fall_at(store.steps(), signs=3)
        self.assert_falls(store, 1, DEEDS["write"])
        self.assert_fallen(store, 1, ["a", "b", "new"])

    def test_told_a_step_that_is_done(self):
        for done in (0, 1):
            store = Store()
            store.write("a")
            store.write("b")
            store.fall_at(done, signs=1)
            self.go_on_for_long(store)

    def test_told_none(self):
        store = Store(fall=2, signs=3)
        store.write("a")
        store.fall_at(None)
        store.write("b")
        self.go_on_for_long(store)
        self.go_on_for_long(Store(fall=None))
        self.go_on_for_long(Store(fall=None, signs=5))
        store = Store()
        store.fall_at(None, signs=5)
        self.go_on_for_long(store)

    def test_told_anew_the_last_telling_counts(self):
        store = Store(fall=1, signs=1)
        store.fall_at(2, signs=2)
        store.write("a")
        store.write("b")
        self.assert_falls(store, 2, DEEDS["write"])
        self.assert_fallen(store, 2, ["a", "b", "ne"])

    def test_told_anew_a_step_ahead(self):
        store = Store(fall=5, signs=5)
        store.write("a")
        store.fall_at(3, signs=9)
        store.fall_at(1)
        self.assert_falls(store, 1, DEEDS["write"])
        self.assert_fallen(store, 1, ["a"])

    def test_told_anew_a_step_that_is_done(self):
        store = Store(fall=2, signs=5)
        store.write("a")
        store.write("b")
        store.fall_at(1, signs=5)
        self.go_on_for_long(store)

    def test_told_anew_behind_none(self):
        store = Store(fall=0)
        store.fall_at(None)
        store.fall_at(0, signs=1)
        self.assert_falls(store, 0, DEEDS["write"])
        self.assert_fallen(store, 0, ["n"])

    def test_told_behind_a_fall(self):
        for step in (None, 0, 1, 2, 7):
            store = Store(["a"], fall=1, signs=2)
            store.write("b")
            self.assert_falls(store, 1, DEEDS["write"])
            store.fall_at(step, signs=4)
            self.assert_fallen(store, 1, ["a", "b", "ne"])

    def test_a_fall_while_rows_are_let_go_changes_none(self):
        store = Store(["a", "b"], fall=0, signs=1)
        self.assert_falls(store, 0, lambda fallen: fallen.let_go(2))
        self.assert_fallen(store, 0, ["a", "b"])

    def test_a_row_without_signs(self):
        for signs, kept in ((0, []), (1, [""]), (7, [""])):
            store = Store(["a"], fall=0, signs=signs)
            self.assert_falls(store, 0, lambda fallen: fallen.write(""))
            self.assert_fallen(store, 0, ["a"] + kept)

    def test_a_store_of_no_rows_falls(self):
        store = Store(fall=0, signs=4)
        self.assert_falls(store, 0, DEEDS["let_go none"])
        self.assert_fallen(store, 0, [])

    def test_ahead_of_a_fall_nothing_shows(self):
        store = Store(["a"], fall=1, signs=1)
        store.write("b")
        self.assertEqual((store.rows(), store.steps(), store.is_up()), (["a", "b"], 1, True))

    def go_on_for_long(self, store):
        first, rows = store.steps(), store.rows()
        for step in range(20):
            store.write(str(step))
            rows.append(str(step))
        self.assertEqual((store.rows(), store.steps(), store.is_up()), (rows, first + 20, True))

    def assert_falls(self, store, step, deed):
        with self.assertRaises(Fell) as caught:
            deed(store)
        self.assertEqual(caught.exception.step, step)

    def assert_fallen(self, store, step, rows):
        for _ in range(2):
            self.assertEqual((store.rows(), store.steps(), store.is_up()), (rows, step, False))
            for deed in DEEDS.values():
                self.assert_falls(store, step, deed)
                self.assertEqual((store.rows(), store.steps(), store.is_up()), (rows, step, False))


class InterfaceTest(unittest.TestCase):
    def test_arguments_by_names(self):
        store = Store(rows=["a"], fall=2, signs=1)
        store.write(row="b")
        store.let_go(many=1)
        store.fall_at(step=3, signs=0)
        store.cut()
        self.assertEqual(store.rows(), [])
        with self.assertRaises(Fell):
            store.write(row="c")

    def test_arguments_by_their_names_alone(self):
        with self.assertRaises(TypeError):
            Store(["a"], 1)
        with self.assertRaises(TypeError):
            Store().fall_at(1, 2)

    def test_what_they_are_where_they_are_not_told(self):
        self.assertEqual(str(inspect.signature(Store)), "(rows=(), *, fall=None, signs=0)")
        self.assertEqual(str(inspect.signature(Store.fall_at)), "(self, step, *, signs=0)")

    def test_defined_in_their_file(self):
        self.assertEqual(Store.__module__, module.__name__)
        for name in ("write", "let_go", "cut", "rows", "steps", "is_up", "fall_at"):
            self.assertIn(name, vars(Store))


if __name__ == "__main__":
    unittest.main()
