"""The tree of sums, and its papers. [34] [35]"""

import inspect
import random
import unittest

from eventledger import tree as module
from eventledger.rows import MODULUS, sum_of
from eventledger.tree import begins, beginning_paper, leaf, pair, root_of, standing_paper, stands
from eventledger.values import shown

EVENT = ("bill", 1, (4, "a"))


def event_at(position):
    return ("bill", 1 + position % 3, (position * 7, "abc"[position % 3]))


EVENTS = [event_at(position) for position in range(101)]
SUMS = [leaf(position, event) for position, event in enumerate(EVENTS)]


def split_of(length):
    return max(2 ** power for power in range(8) if 2 ** power < length)


def root_as_told(start, end):
    """The sum of the events from the start to the end."""
    if start == end:
        return 0
    if end - start == 1:
        kind, version, values = EVENTS[start]
        return sum_of(shown((start, kind, version, values)))
    middle = start + split_of(end - start)
    return (31 * root_as_told(start, middle) + 101 * root_as_told(middle, end) + 7) % 1000003


def standing_as_told(start, end, position):
    if end - start == 1:
        return []
    middle = start + split_of(end - start)
    if position < middle:
        return standing_as_told(start, middle, position) + [root_as_told(middle, end)]
    return standing_as_told(middle, end, position) + [root_as_told(start, middle)]


def parts_as_told(start, end, cut):
    """The (start, end) of the parts into which a run is cut."""
    if start == end:
        return []
    if cut in (start, end):
        return [(start, end)]
    middle = start + split_of(end - start)
    if cut < middle:
        return parts_as_told(start, middle, cut) + [(middle, end)]
    if cut == middle:
        return [(start, middle), (middle, end)]
    return [(start, middle)] + parts_as_told(middle, end, cut)


class SumsTest(unittest.TestCase):
    def test_leaf(self):
        self.assertEqual(leaf(0, ("a", 1, ())), sum_of('(0 "a" 1 ())'))
        self.assertEqual(leaf(17, EVENT), sum_of('(17 "bill" 1 (4 "a"))'))
        self.assertNotEqual(leaf(1, EVENT), leaf(0, EVENT))

    def test_pair(self):
        for left, right, told in (
            (0, 0, 7), (1, 0, 38), (0, 1, 108), (1000002, 0, 1000003 - 24), (1000002, 1000002, 999878),
        ):
            self.assertEqual(pair(left, right), told)

    def test_roots(self):
        self.assertEqual(root_of([]), 0)
        self.assertEqual(root_of(()), 0)
        self.assertEqual(root_of([5]), 5)
        self.assertEqual(root_of([5, 6]), pair(5, 6))
        self.assertEqual(root_of((5, 6, 7)), pair(pair(5, 6), 7))
        self.assertEqual(root_of([5, 6, 7, 8]), pair(pair(5, 6), pair(7, 8)))
        self.assertEqual(root_of([5, 6, 7, 8, 9]), pair(pair(pair(5, 6), pair(7, 8)), 9))
        self.assertEqual(root_of([5, 6, 7, 8, 9, 1]), pair(pair(pair(5, 6), pair(7, 8)), pair(9, 1)))
        for length in range(101):
            self.assertEqual(root_of(SUMS[:length]), root_as_told(0, length))

    def test_what_is_handed_in_stays(self):
        sums = [5, 6, 7]
        root_of(sums)
        standing_paper(sums, 1)
        beginning_paper(sums, 2)
        self.assertEqual(sums, [5, 6, 7])


class StandsTest(unittest.TestCase):
    def test_each_position_of_each_length(self):
        for length in range(1, 101):
            root = root_of(SUMS[:length])
            for position in range(length):
                paper = standing_paper(SUMS[:length], position)
                self.assertIs(type(paper), list)
                self.assertEqual(paper, standing_as_told(0, length, position))
                self.assertIs(stands(root, length, position, EVENTS[position], paper), True)
                self.assertIs(stands(root, length, position, EVENTS[position], tuple(paper)), True)

    def test_one_sum_another_one(self):
        chance = random.Random(71)
        for length in (1, 2, 3, 5, 8, 13, 31, 64, 100):
            root = root_of(SUMS[:length])
            for position in range(length):
                paper = standing_paper(SUMS[:length], position)
                for at in range(len(paper)):
                    for sum_there in ((paper[at] + 1) % MODULUS, chance.randrange(MODULUS), 0, MODULUS - 1):
                        if sum_there != paper[at]:
                            other = [*paper[:at], sum_there, *paper[at + 1:]]
                            self.assertIs(stands(root, length, position, EVENTS[position], other), False)

    def test_another_root_event_position_or_length(self):
        for length in (1, 2, 3, 7, 8, 50):
            root = root_of(SUMS[:length])
            for position in range(length):
                paper = standing_paper(SUMS[:length], position)
                event = EVENTS[position]
                self.assertFalse(stands((root + 1) % MODULUS, length, position, event, paper))
                kind, version, (number, word) = event
                for other in (("bilk", version, (number, word)), (kind, version + 3, (number, word)),
                              (kind, version, (number + 1, word)), (kind, version, (number, "z"))):
                    self.assertFalse(stands(root, length, position, other, paper))
                for elsewhere in (position - 1, position + 1):
                    self.assertFalse(stands(root, length, elsewhere, event, paper))
                self.assertFalse(stands(root, 0, position, event, paper))
        self.assertFalse(stands(SUMS[0], 1, 1, EVENTS[0], []))
        self.assertFalse(stands(SUMS[0], 1, -1, EVENTS[0], []))
        self.assertFalse(stands(0, 0, 0, EVENTS[0], []))

    def test_too_many_or_too_few(self):
        for length in (1, 2, 3, 6, 9):
            root = root_of(SUMS[:length])
            for position in range(length):
                paper = standing_paper(SUMS[:length], position)
                for other in ([*paper, 0], [0, *paper], [*paper, *paper, 1], paper[:-1], paper[1:]):
                    if other != paper:
                        self.assertIs(stands(root, length, position, EVENTS[position], other), False)

    def test_of_other_kinds(self):
        for length, position in ((1, 0), (2, 1), (5, 3)):
            root = root_of(SUMS[:length])
            paper = standing_paper(SUMS[:length], position)
            for other in strange_papers(paper):
                self.assertIs(stands(root, length, position, EVENTS[position], other), False)


class BeginsTest(unittest.TestCase):
    def test_each_shorter_length_of_each_length(self):
        for length in range(101):
            root = root_of(SUMS[:length])
            for shorter in range(length + 1):
                elder = root_of(SUMS[:shorter])
                paper = beginning_paper(SUMS[:length], shorter)
                self.assertIs(type(paper), list)
                self.assertEqual(paper, [root_as_told(*part) for part in parts_as_told(0, length, shorter)])
                self.assertIs(begins(root, length, elder, shorter, paper), True)
                self.assertIs(begins(root, length, elder, shorter, tuple(paper)), True)

    def test_where_nothing_is_cut(self):
        self.assertEqual(beginning_paper([], 0), [])
        self.assertEqual(beginning_paper([5], 0), [5])
        self.assertEqual(beginning_paper([5], 1), [5])
        self.assertEqual(beginning_paper([5, 6, 7], 0), [root_of([5, 6, 7])])
        self.assertEqual(beginning_paper([5, 6, 7], 3), [root_of([5, 6, 7])])
        for root, length, elder, shorter, paper, told in (
            (0, 0, 0, 0, [], True), (0, 0, 0, 0, (), True), (0, 0, 0, 0, [0], False), (1, 0, 0, 0, [], False),
            (0, 0, 1, 0, [], False), (5, 1, 0, 0, [5], True), (5, 1, 0, 0, [], False), (5, 1, 5, 0, [5], False),
            (5, 1, 0, 0, [6], False), (5, 1, 5, 1, [5], True), (5, 1, 5, 1, [6], False), (5, 1, 6, 1, [5], False),
            (6, 1, 5, 1, [5], False), (5, 1, 5, 1, [5, 5], False), (5, 1, 0, 0, [5, 5], False),
            (6, 1, 0, 0, [5], False), (pair(5, 0), 2, 5, 1, [5, 0], True), (pair(5, 0), 2, 5, 1, [5, MODULUS], False),
            (pair(5, -1), 2, 5, 1, [5, -1], False), (pair(5, -1), 2, 5, 1, [5, MODULUS - 1], True),
        ):
            self.assertIs(begins(root, length, elder, shorter, paper), told)

    def test_the_one_length_above_the_other(self):
        for length in range(6):
            for shorter in range(length + 1, 8):
                for paper in ([], [5], beginning_paper(SUMS[:shorter], length), beginning_paper(SUMS[:length], length)):
                    told = begins(root_of(SUMS[:length]), length, root_of(SUMS[:shorter]), shorter, paper)
                    self.assertIs(told, False)
        self.assertIs(begins(5, 1, 0, -1, [5]), False)
        self.assertIs(begins(0, -1, 0, -1, []), False)

    def test_one_sum_another_one(self):
        for length in (1, 2, 3, 6, 8, 21, 64, 100):
            root = root_of(SUMS[:length])
            for shorter in range(length + 1):
                elder = root_of(SUMS[:shorter])
                paper = beginning_paper(SUMS[:length], shorter)
                for at in range(len(paper)):
                    for step in (1, 5, MODULUS - 1):
                        other = [*paper[:at], (paper[at] + step) % MODULUS, *paper[at + 1:]]
                        self.assertIs(begins(root, length, elder, shorter, other), False)

    def test_other_roots_and_counts(self):
        for length in (1, 2, 3, 6, 9, 16, 33):
            root = root_of(SUMS[:length])
            for shorter in range(length + 1):
                elder = root_of(SUMS[:shorter])
                paper = beginning_paper(SUMS[:length], shorter)
                self.assertFalse(begins((root + 1) % MODULUS, length, elder, shorter, paper))
                self.assertFalse(begins(root, length, (elder + 1) % MODULUS, shorter, paper))
                for other in ([*paper, 0], [0, *paper], paper[:-1], paper[1:]):
                    if other != paper:
                        self.assertIs(begins(root, length, elder, shorter, other), False)

    def test_of_other_kinds(self):
        for length, shorter in ((0, 0), (1, 1), (3, 2), (7, 4), (5, 0)):
            root, elder = root_of(SUMS[:length]), root_of(SUMS[:shorter])
            paper = beginning_paper(SUMS[:length], shorter)
            for other in strange_papers(paper):
                self.assertIs(begins(root, length, elder, shorter, other), False)


class InterfaceTest(unittest.TestCase):
    def test_signatures(self):
        for function, told in (
            (leaf, "(position, event)"), (pair, "(left, right)"), (root_of, "(sums)"),
            (stands, "(root, length, position, event, paper)"), (begins, "(root, length, elder, shorter, paper)"),
        ):
            self.assertEqual(str(inspect.signature(function)), told)
            self.assertEqual(function.__module__, module.__name__)

    def test_by_names(self):
        self.assertEqual(pair(right=1, left=0), 108)
        self.assertEqual(root_of(sums=[leaf(event=EVENT, position=0)]), leaf(0, EVENT))
        self.assertTrue(stands(root=leaf(0, EVENT), length=1, position=0, event=EVENT, paper=[]))
        self.assertTrue(begins(root=5, length=1, elder=0, shorter=0, paper=[5]))


def strange_papers(paper):
    """Papers that are no list or tuple of sums, or in which one isn't a sum."""
    told = [None, 5, "", "abc", {}, {5: 5}, set(), b"", True, object(), {number: 0 for number in paper}, iter(paper)]
    for at in range(len(paper)):
        for other in (-1, MODULUS, paper[at] + MODULUS, paper[at] - MODULUS, str(paper[at]), None, True, False,
                      (paper[at],), float(paper[at]), [paper[at]]):
            told.append([*paper[:at], other, *paper[at + 1:]])
    return told


if __name__ == "__main__":
    unittest.main()
