"""Rows: their sums, how they are made, and which texts are none. [11]"""

import inspect
import unittest

from eventledger import rows
from eventledger.rows import MODULUS, body_of, framed, sum_of

SIGNS = [chr(code) for code in range(32, 127)]
BODIES = [
    "", "a", " ", "  ", "0", "%", "aa", "ab", "1 49 1", "0 0 ", "(1 -2 \"a\"\"b\")",
    "10 20 30", "~" * 9, "~" * 10, "9" * 99, "z" * 100, "A longer one, of words and 12 figures.",
]


class SumTest(unittest.TestCase):
    def test_the_modulus(self):
        self.assertEqual(MODULUS, 1000003)

    def test_sums(self):
        self.assertEqual(sum_of(""), 0)
        self.assertEqual(sum_of("a"), 97)
        self.assertEqual(sum_of("ab"), 97 + 2 * 98)
        self.assertEqual(sum_of("ba"), 98 + 2 * 97)
        self.assertEqual(sum_of("  a"), 32 + 2 * 32 + 3 * 97)

    def test_the_sum_is_taken_modulo(self):
        self.assertEqual(sum_of("~" * 4000), 126 * (4000 * 4001 // 2) % 1000003)
        # 9708 * 103 + 79 is just the modulus.
        self.assertEqual(sum_of(chr(78) + chr(0) * 9706 + chr(103)), 1000002)
        self.assertEqual(sum_of(chr(79) + chr(0) * 9706 + chr(103)), 0)
        self.assertEqual(sum_of(chr(80) + chr(0) * 9706 + chr(103)), 1)

    def test_another_modulus(self):
        whole = 97 + 2 * 98 + 3 * 99
        for modulus in (1, 2, 3, 7, 97, whole - 1, whole, whole + 1, 10 ** 15 - 1):
            self.assertEqual(sum_of("abc", modulus=modulus), whole % modulus)
        self.assertEqual(sum_of("", modulus=1), 0)

    def test_any_text(self):
        self.assertEqual(sum_of("\n\u20ac\U0001f600"), 10 + 2 * 0x20AC + 3 * 0x1F600)


class RowTest(unittest.TestCase):
    def test_rows(self):
        self.assertEqual(framed(""), "0 0 ")
        self.assertEqual(framed("a"), "1 97 a")
        self.assertEqual(framed("ab"), "2 293 ab")
        self.assertEqual(framed(" "), "1 32  ")
        many = "~" * 4000
        self.assertEqual(framed(many), f"4000 {1008252000 % 1000003} {many}")

    def test_a_row_is_read_back(self):
        for body in [*BODIES, *SIGNS, "".join(SIGNS), "x" * 4000, "".join(SIGNS) * 40, "a\nb", "\u20ac"]:
            self.assertEqual(body_of(framed(body)), body)
            self.assertEqual(body_of(framed(framed(body))), framed(body))

    def test_another_sign(self):
        for body in BODIES:
            row = framed(body)
            for at in range(len(row)):
                for sign in SIGNS:
                    if sign != row[at]:
                        self.assert_no_row(row[:at] + sign + row[at + 1:])

    def test_unlike_neighbours_exchanged(self):
        for body in BODIES:
            row = framed(body)
            for at in range(len(row) - 1):
                if row[at] != row[at + 1]:
                    self.assert_no_row(row[:at] + row[at + 1] + row[at] + row[at + 2:])

    def test_early_ends(self):
        for body in BODIES:
            row = framed(body)
            for end in range(len(row)):
                self.assert_no_row(row[:end])

    def test_a_long_row_changed_at_each_place(self):
        row = framed("Long " * 800)
        for at in range(len(row)):
            self.assert_no_row(row[:at] + ("x" if row[at] != "x" else "y") + row[at + 1:])

    def test_a_sign_left_out_or_put_in(self):
        for body in BODIES:
            row = framed(body)
            for at in range(len(row)):
                self.assert_no_row(row[:at] + row[at + 1:])
                for sign in "0 -+a":
                    self.assert_no_row(row[:at] + sign + row[at:])
            for sign in ("a", " ", "\n"):
                self.assert_no_row(row + sign)

    def test_numbers_written_otherwise(self):
        for row in (
            "01 97 a", "1 097 a", "001 97 a", "1 0097 a", "00 0 ", "0 00 ", "+1 97 a", "1 +97 a",
            "-0 0 ", "0 -0 ", "1_0 97 a", "1.0 97 a", " 1 97 a", "1  97 a", "1\t97 a", "1 97\ta",
            "\uff11 97 a", "1 9\u0667 a", "1 97 a\n", "\n1 97 a",
        ):
            self.assert_no_row(row)

    def test_another_length_or_sum(self):
        for row in (
            "0 97 a", "2 97 a", "1 96 a", "1 98 a", "1 0 a", "-1 97 a", "1 -97 a", "1 0 ", "0 1 ",
            f"1 {97 + MODULUS} a", f"0 {MODULUS} ", "2 293 ba", "2 293 abc",
        ):
            self.assert_no_row(row)

    def test_texts_that_are_nothing_like_a_row(self):
        for row in ("", " ", "  ", "   ", "0", "0 ", "0 0", "a", "a b c", "1 97", "1 97a", "\n", "9" * 5000):
            self.assert_no_row(row)

    def assert_no_row(self, row):
        self.assertIsNone(body_of(row), row)


class InterfaceTest(unittest.TestCase):
    def test_arguments_by_names(self):
        self.assertEqual(sum_of(text="ab", modulus=10), 3)
        self.assertEqual(framed(body="a"), "1 97 a")
        self.assertEqual(body_of(row="1 97 a"), "a")

    def test_the_modulus_by_its_name_alone(self):
        with self.assertRaises(TypeError):
            sum_of("ab", 10)
        self.assertEqual(inspect.signature(sum_of).parameters["modulus"].default, MODULUS)

    def test_defined_in_their_file(self):
        for function in (sum_of, framed, body_of):
            self.assertEqual(function.__module__, rows.__name__)


if __name__ == "__main__":
    unittest.main()
