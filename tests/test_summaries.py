"""Summaries: what runs of events make of rows, joined, applied and compared. [22] [23]"""

import copy
import inspect
import itertools
import random
import unittest

from eventledger import summaries as module
from eventledger.errors import NoVersion, Strange, Unread
from eventledger.projections import fold
from eventledger.summaries import applied, apart, joined, summed
from telling import some_events, some_kinds, some_projection, table_as_told
from test_kinds import caught

CELLS = (("p", 0), ("q", -5))
ONE = (("p", 3),)
NOTHING = (0, None, None)


def by(*deeds, cells=CELLS):
    """A projection with a rule for each number of a bill, from 0 on."""
    rules = tuple(("bill", (("no", at),), (), (deed,)) for at, deed in enumerate(deeds))
    return ((("bill", 2),), cells, rules)


def bills(*numbers):
    return [("bill", 2, ("a", number, 40, "n")) for number in numbers]


def change(word, number, cell="p"):
    return (word, cell, ("number", number))


ADD, LEAST, MOST, SET, FORGET = change("add", 2), change("least", 5), change("most", 9), change("set", 7), ("forget",)
EACH = by(ADD, LEAST, MOST, SET, FORGET, change("add", -4, "q"), change("set", 1, "q"), change("most", 3))


def touched(*cells):
    return {(): ("touched", tuple(cells))}


def fixed(*numbers):
    return {(): ("fixed", numbers)}


GONE = {(): ("fixed", None)}


class SummedTest(unittest.TestCase):
    def told(self, *numbers):
        return summed(some_kinds(), EACH, bills(*numbers))

    def test_of_no_deeds(self):
        self.assertEqual(self.told(), {})
        self.assertEqual(self.told(99), {})
        self.assertEqual(summed(some_kinds(), EACH, ()), {})
        self.assertEqual(summed(some_kinds(), EACH, [("note", 1, ("a",)), ("zz", 7, None)]), {})

    def test_of_one_deed(self):
        for number, cell in ((0, (2, None, None)), (1, (0, 5, None)), (2, (0, None, 9)), (3, (0, 7, 7))):
            self.assertEqual(self.told(number), touched(cell, NOTHING))
        self.assertEqual(self.told(4), GONE)
        self.assertEqual(self.told(5), touched(NOTHING, (-4, None, None)))

    def test_of_several(self):
        for numbers, cell in (
            ((0, 0), (4, None, None)), ((1, 0), (2, 7, None)), ((0, 1), (2, 5, None)), ((2, 0), (2, None, 11)),
            ((0, 2), (2, None, 9)), ((1, 2), (0, 5, 9)), ((2, 1), (0, 5, 9)), ((1, 2, 0), (2, 7, 11)),
            ((1, 2, 0, 2), (2, 7, 9)), ((3, 0), (0, 9, 9)), ((0, 3), (0, 7, 7)), ((1, 7), (0, 3, 3)),
            ((7, 1), (0, 5, 5)), ((2, 0, 2, 0), (4, None, 11)), ((1, 0, 0, 0, 2), (0, 9, 9)),
            ((1, 0, 0, 2), (0, 9, 9)), ((1, 0, 2), (2, 7, 9)), ((7, 0, 1), (0, 5, 5)),
            ((7, 0, 0, 1), (4, 5, 7)), ((0, 0, 1, 1, 2, 2), (4, 5, 9)), ((3, 7), (0, 3, 3)), ((3, 2), (0, 7, 7)),
        ):
            self.assertEqual(self.told(*numbers), touched(cell, NOTHING), numbers)

    def test_all_cells_at_one_number(self):
        self.assertEqual(self.told(3, 6), fixed(7, 1))
        self.assertEqual(self.told(6, 3, 0, 5), fixed(9, -3))
        self.assertEqual(self.told(6, 1, 7), fixed(3, 1))
        self.assertEqual(self.told(6, 1), touched((0, 5, None), (0, 1, 1)))
        self.assertEqual(summed(some_kinds(), by(SET, cells=ONE), bills(0)), fixed(7))

    def test_forget(self):
        self.assertEqual(self.told(0, 4), GONE)
        self.assertEqual(self.told(3, 6, 4), GONE)
        self.assertEqual(self.told(4, 4), GONE)
        self.assertEqual(self.told(4, 0), fixed(2, -5))
        self.assertEqual(self.told(0, 4, 5, 1), fixed(5, -9))
        self.assertEqual(self.told(4, 0, 4, 2), fixed(0, -5))

    def test_nothing_added_is_a_row_that_begins(self):
        told = summed(some_kinds(), by(change("add", 0)), bills(0))
        self.assertEqual(told, touched(NOTHING, NOTHING))
        self.assertEqual(applied(by(), told, {}), {(): (0, -5)})

    def test_by_fields(self):
        projection = ((("bill", 2),), ONE, (("bill", (), (("field", "no"),), (("least", "p", ("field", "sum")), ADD)),))
        self.assertEqual(summed(some_kinds(), projection, [("bill", 1, (4, 30, "a")), *bills(1, 4)]), {
            (4,): ("touched", ((4, 3004, None),)), (1,): ("touched", ((2, 42, None),))})

    def test_told_are_tuples(self):
        for told in (self.told(0), self.told(3, 6), self.told(4), self.told(4, 0), self.told(1, 2, 0)):
            (effect,) = told.values()
            self.assertIs(type(effect), tuple)
            self.assertIn(type(effect[1]), (tuple, type(None)))
            if effect[0] == "touched":
                self.assertTrue(all(type(cell) is tuple for cell in effect[1]))

    def test_the_first_that_can_not_be_read(self):
        strange, unread, missing = ("bill", 2, None), ("bill", 3, None), ("bill", 0, None)
        for events, refusal in (([*bills(1), strange, unread], Strange), ([unread, strange], Unread),
                                ([*bills(9, 1), missing, unread], NoVersion)):
            caught(self, refusal, summed, some_kinds(), EACH, events)
            caught(self, refusal, summed, some_kinds(), EACH, tuple(events))


class JoinedTest(unittest.TestCase):
    def test_of_none(self):
        one = {(1,): ("touched", ((2, None, 4), (0, 1, 1))), (2,): ("fixed", None), (3,): ("fixed", (1, 2))}
        self.assertEqual(joined(EACH, {}, {}), {})
        self.assertEqual(joined(EACH, one, {}), one)
        self.assertEqual(joined(EACH, {}, one), one)

    def test_of_each_sort(self):
        some, other = touched((2, None, 8), (0, 1, 1)), touched((1, 3, None), (-1, 0, 4))
        self.assertEqual(joined(EACH, some, other), touched((3, 3, 9), (0, 0, 0)))
        self.assertEqual(joined(EACH, other, some), touched((3, 5, 8), (0, 1, 1)))
        for one in (some, other, GONE, fixed(4, 4), {}):
            self.assertEqual(joined(EACH, one, GONE), GONE)
            self.assertEqual(joined(EACH, one, fixed(3, 3)), fixed(3, 3))
        self.assertEqual(joined(EACH, GONE, some), fixed(2, 1))
        self.assertEqual(joined(EACH, GONE, other), fixed(3, 0))
        self.assertEqual(joined(EACH, fixed(100, 100), some), fixed(8, 1))
        self.assertEqual(joined(EACH, fixed(100, 100), other), fixed(101, 4))

    def test_that_come_to_one_number(self):
        self.assertEqual(joined(EACH, touched((0, 5, None), (0, 1, 1)), touched((0, None, 3), NOTHING)), fixed(3, 1))
        self.assertEqual(joined(EACH, touched((0, 5, None), NOTHING), touched((0, None, 3), NOTHING)),
                         touched((0, 3, 3), NOTHING))
        self.assertEqual(joined(EACH, touched((2, 5, 9), NOTHING), touched((4, 10, 12), NOTHING)),
                         touched((6, 10, 12), NOTHING))
        self.assertEqual(joined(EACH, touched((2, 5, 9), NOTHING), touched((4, 13, None), NOTHING)),
                         touched((0, 13, 13), NOTHING))

    def test_with_a_number_changed(self):
        # What is told is written as equal ones are, also where what is handed in isn't.
        above, still = touched((2, 9, 4), NOTHING), touched((7, 4, 4), NOTHING)
        for one in (above, still):
            wanted = touched((0, 4, 4), NOTHING)
            self.assertEqual(joined(EACH, one, {}), wanted)
            self.assertEqual(joined(EACH, {}, one), wanted)
            self.assertEqual(joined(EACH, one, touched((1, None, None), NOTHING)), touched((0, 5, 5), NOTHING))
            self.assertEqual(joined(EACH, touched((1, 50, None), NOTHING), one), wanted)
            self.assertEqual(joined(EACH, fixed(1, 1), one), fixed(4, 1))
        all_one = touched((3, 4, 4), (0, 8, 7))
        self.assertEqual(joined(EACH, all_one, {}), fixed(4, 7))
        self.assertEqual(joined(EACH, touched((1, None, None), NOTHING), all_one), fixed(4, 7))
        self.assertEqual(joined(EACH, all_one, touched((1, None, None), NOTHING)), fixed(5, 7))
        great = 10 ** 38
        self.assertEqual(joined(EACH, fixed(great, -great), touched((great, None, None), (0, great, None))),
                         fixed(2 * great, great))

    def test_in_each_grouping(self):
        kinds, chance = some_kinds(), random.Random(61)
        for _ in range(200):
            projection = some_projection(chance)
            events = some_events(chance, projection, chance.choice((0, 1, 3, 12)))
            whole = summed(kinds, projection, events)
            runs = split(chance, events)
            summaries = [summed(kinds, projection, run) for run in runs]
            self.assertEqual(grouped(chance, projection, summaries), whole)
            self.assertEqual(grouped(chance, projection, summaries), whole)
            self.assert_written(whole)

    def assert_written(self, summary):
        for word, told in summary.values():
            if word == "touched":
                for plus, least, most in told:
                    self.assertFalse(None not in (least, most) and least > most)
                    self.assertFalse(least is not None and least == most and plus != 0)
                self.assertFalse(all(least is not None and least == most for _, least, most in told))

    def test_equal_ones_are_equal(self):
        numbers = (-1, 0, 1, 2)
        for words in itertools.product(("add", "least", "most", "set"), repeat=3):
            told = {}
            for amounts in itertools.product(numbers, repeat=3):
                deeds = [change(word, number) for word, number in zip(words, amounts)]
                summary = summed(some_kinds_once(), by(*deeds, cells=ONE), bills(0, 1, 2))
                made = tuple(applied(by(cells=ONE), summary, {(): (x,)})[()][0] for x in range(-12, 13))
                self.assertEqual(told.setdefault(made, summary), summary)


class AppliedTest(unittest.TestCase):
    def test_each_sort(self):
        table = {(): (10, 20), (1,): (1, 1)}
        for summary, row, of_none in (
            (touched((2, None, None), (0, 25, None)), (12, 25), (2, 25)),
            (touched((-2, None, 5), NOTHING), (5, 20), (-2, -5)),
            (fixed(1, 2), (1, 2), (1, 2)), (GONE, None, None), ({}, (10, 20), None),
            (touched((1, 20, 30), (0, 1, 1)), (20, 1), (20, 1)),
            (touched(NOTHING, NOTHING), (10, 20), (0, -5)),
        ):
            wanted = {(1,): (1, 1)} if row is None else {(): row, (1,): (1, 1)}
            self.assertEqual(applied(EACH, summary, table), wanted)
            self.assertEqual(applied(EACH, summary, {}), {} if of_none is None else {(): of_none})

    def test_at_least_goes_ahead_of_at_most(self):
        self.assertEqual(applied(EACH, touched((0, 9, 4), NOTHING), {(): (50, 1)}), {(): (4, 1)})
        self.assertEqual(applied(EACH, touched((0, 9, 4), NOTHING), {(): (-50, 1)}), {(): (4, 1)})

    def test_what_is_handed_in_stays(self):
        table, summary = {(): (10, 20), (1,): (1, 1)}, touched((2, None, None), (0, 25, None))
        kept = copy.deepcopy((table, summary))
        told = applied(EACH, summary, table)
        told.clear()
        joined(EACH, summary, summary).clear()
        joined(EACH, summary, {}).clear()
        applied(EACH, {}, table).clear()
        apart(EACH, summary, {})
        self.assertEqual((table, summary), kept)
        self.assertEqual(applied(EACH, summary, table), {(): (12, 25), (1,): (1, 1)})

    def test_is_the_fold(self):
        kinds, chance = some_kinds(), random.Random(62)
        for _ in range(200):
            projection = some_projection(chance)
            events = some_events(chance, projection, chance.choice((1, 4, 20)))
            for table in ({}, table_as_told(projection, some_events(chance, projection, 6))):
                wanted = table_as_told(projection, events, table)
                self.assertEqual(fold(kinds, projection, events, table=table), wanted)
                self.assertEqual(applied(projection, summed(kinds, projection, events), table), wanted)
                summaries = [summed(kinds, projection, run) for run in split(chance, events)]
                self.assertEqual(applied(projection, grouped(chance, projection, summaries), table), wanted)
                for summary in summaries:
                    table = applied(projection, summary, table)
                self.assertEqual(table, wanted)


class ApartTest(unittest.TestCase):
    def assert_alike(self, one, other):
        self.assertIsNone(apart(EACH, one, other))
        self.assertIsNone(apart(EACH, other, one))

    def assert_apart(self, one, other):
        rows = []
        for first, second in ((one, other), (other, one)):
            key, row = apart(EACH, first, second)
            self.assertTrue(row is None or type(row) is tuple and len(row) == 2 and all(type(x) is int for x in row))
            table = {} if row is None else {key: row}
            self.assertNotEqual(applied(EACH, first, table).get(key), applied(EACH, second, table).get(key))
            rows.append((key, row))
        return rows

    def test_alike(self):
        for summary in ({}, GONE, fixed(1, 2), touched((2, None, 8), (0, 1, 1)), touched(NOTHING, NOTHING)):
            self.assert_alike(summary, copy.deepcopy(summary))

    def test_alike_though_written_otherwise(self):
        self.assert_alike(touched((3, 4, 4), NOTHING), touched((0, 4, 4), NOTHING))
        self.assert_alike(touched((3, 8, 4), NOTHING), touched((0, 4, 4), NOTHING))
        self.assert_alike(touched((3, 8, 4), (9, 9, 9)), fixed(4, 9))
        self.assert_alike(touched((3, 8, 4), (9, 9, 9)), touched((0, 4, 4), (0, 10, 9)))

    def test_keys_that_one_has_not(self):
        for summary in (GONE, fixed(1, 2), fixed(0, -5), touched((2, None, 8), NOTHING), touched(NOTHING, NOTHING)):
            for key, _ in self.assert_apart(summary, {}):
                self.assertEqual(key, ())
            more = {**summary, (1,): ("fixed", None)}
            for key, row in self.assert_apart(summary, more):
                self.assertEqual((key, type(row)), ((1,), tuple))

    def test_a_row_that_is_not_there(self):
        for one, other in ((GONE, fixed(0, -5)), (GONE, touched(NOTHING, NOTHING)), ({}, touched(NOTHING, NOTHING))):
            for _, row in self.assert_apart(one, other):
                self.assertIsNone(row)

    def test_unlike_ones(self):
        summaries = [
            {}, GONE, fixed(0, -5), fixed(1, -5), fixed(0, 7), touched(NOTHING, NOTHING),
            touched((1, None, None), NOTHING),
            touched((0, 0, 0), NOTHING), touched((0, 0, 0), (0, None, -5)), touched((0, -7, 7), NOTHING),
            touched((1, -7, 7), NOTHING), touched((0, -7, 8), NOTHING), touched((0, -8, 7), NOTHING),
            touched((0, None, 7), NOTHING), touched((0, -7, None), NOTHING), touched(NOTHING, (0, None, 7)),
            touched((0, None, -7), NOTHING), touched((0, 7, None), NOTHING), touched((5, None, 0), (-5, 2, None)),
        ]
        for one, other in itertools.combinations(summaries, 2):
            self.assert_apart(one, other)

    def test_one_number_far_off(self):
        far = 10 ** 15 - 1
        some = ("touched", ((far, -far, far), (-far, None, far)))
        for cell, at, number in itertools.product((0, 1), (0, 1, 2), (1, -1, far, -far)):
            cells = [list(told) for told in some[1]]
            if cells[cell][at] is None:
                cells[cell][at] = number
            else:
                cells[cell][at] += number
            if None in cells[cell] or cells[cell][1] <= cells[cell][2]:
                self.assert_apart({(): some}, {(): ("touched", tuple(tuple(told) for told in cells))})
        self.assert_apart(touched((0, -far, None), NOTHING), touched(NOTHING, NOTHING))
        self.assert_apart(touched((0, None, 10 ** 39), NOTHING), touched(NOTHING, NOTHING))
        self.assert_apart(touched((-far, None, 3), NOTHING), touched((-far, None, 4), NOTHING))
        self.assert_apart(touched((far, 3, None), NOTHING), touched((far, 4, None), NOTHING))
        self.assert_apart(fixed(far, far), fixed(far, far - 1))

    def test_one_key_of_many(self):
        one = {(number,): ("touched", ((number, None, None), NOTHING)) for number in range(1, 30)}
        for number in (1, 17, 29):
            other = {**one, (number,): ("touched", ((number, None, 10 ** 12), NOTHING))}
            for key, _ in self.assert_apart(one, other):
                self.assertEqual(key, (number,))
        self.assert_alike(one, dict(reversed(one.items())))

    def test_by_chance(self):
        chance = random.Random(63)
        for _ in range(3000):
            told = [some_change(chance) for _ in range(2)]
            one, other = [{} if effect is None else {(): effect} for effect in told]
            rows = [None, *[(p, q) for p in range(-9, 10) for q in (-9, -5, -2, -1, 0, 1, 2, 9)],
                    *[(p, q) for q in range(-9, 10) for p in (-9, 0, 9)]]
            tables = [{} if row is None else {(): row} for row in rows]
            if all(applied(EACH, one, table) == applied(EACH, other, table) for table in tables):
                self.assert_alike(one, other)
            else:
                self.assert_apart(one, other)


class InterfaceTest(unittest.TestCase):
    def test_signatures(self):
        for function, told in ((summed, "(kinds, projection, events)"), (joined, "(projection, one, other)"),
                               (applied, "(projection, summary, table)"), (apart, "(projection, one, other)")):
            self.assertEqual(str(inspect.signature(function)), told)
            self.assertEqual(function.__module__, module.__name__)

    def test_by_names(self):
        told = summed(kinds=some_kinds(), projection=EACH, events=bills(0))
        self.assertEqual(joined(projection=EACH, one=told, other={}), told)
        self.assertEqual(applied(projection=EACH, summary=told, table={}), {(): (2, -5)})
        self.assertIsNone(apart(projection=EACH, one=told, other=told))

    def test_told_summaries_changed(self):
        kinds = some_kinds()
        first = summed(kinds, EACH, bills(0, 1))
        kept = dict(first)
        second = joined(EACH, first, {})
        first.clear()
        self.assertEqual(second, kept)
        self.assertEqual(summed(kinds, EACH, bills(0, 1)), kept)


KINDS = []


def some_kinds_once():
    """The same kinds each time, as many are asked for."""
    if not KINDS:
        KINDS.append(some_kinds())
    return KINDS[0]


def some_change(chance):
    """What becomes of a row, perhaps written as none would be told."""
    if chance.random() < 0.2:
        return chance.choice((None, ("fixed", None), ("fixed", (1, 0)), ("fixed", (0, -5))))
    cells = []
    for _ in range(2):
        bounds = [chance.choice((None, -2, 0, 1, 2)) for _ in range(2)]
        cells.append((chance.choice((-1, 0, 0, 1)), *bounds))
    return ("touched", tuple(cells))


def split(chance, events):
    """The events in runs, perhaps of none."""
    cuts = sorted(chance.randint(0, len(events)) for _ in range(chance.randint(1, 4)))
    return [events[start:end] for start, end in zip([0, *cuts], [*cuts, len(events)])]


def grouped(chance, projection, summaries):
    """The join of all, in any grouping."""
    summaries = list(summaries)
    while len(summaries) > 1:
        at = chance.randrange(len(summaries) - 1)
        summaries[at:at + 2] = [joined(projection, summaries[at], summaries[at + 1])]
    return summaries[0]


if __name__ == "__main__":
    unittest.main()
