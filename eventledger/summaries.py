"""Summaries: what runs of events make of the rows of tables, whatever there was."""

from eventledger.projections import deeds_of, starts_of
from eventledger.touches import fixed_touch, is_fixed_touch, number_apart, plain_touch, touch_behind, touch_of, touched

GONE = ("fixed", None)


def summed(kinds, projection, events):
    """The summary of the events: what becomes of the row of each key of which they have deeds."""
    told = {}
    for event in events:
        for key, word, cell, number in deeds_of(kinds, projection, event):
            told[key] = _behind(projection, told.get(key), _change_of(projection, word, cell, number))
    return told


def _change_of(projection, word, cell, number):
    """What a deed makes of a row."""
    if word == "forget":
        return GONE
    nothing = touch_of("add", 0)
    return _plain(("touched", [touch_of(word, number) if name == cell else nothing for name, _ in projection[1]]))


def _plain(change):
    """What becomes of a row, written so that equal ones are equal."""
    word, told = change
    if word == "fixed":
        return change
    touches = tuple([plain_touch(touch) for touch in told])
    if all([is_fixed_touch(touch) for touch in touches]):
        return ("fixed", tuple([number for _, number, _ in touches]))
    return ("touched", touches)


def _behind(projection, one, other):
    """What becomes of a row by both, the other one behind the one; either is None where nothing does."""
    if one is None or other is None:
        return _plain(one if other is None else other)
    if other[0] == "fixed":
        return other
    if one[0] == "fixed":
        return ("fixed", _row_by(projection, other, one[1]))
    first, second = _plain(one), _plain(other)
    if first[0] == "fixed" or second[0] == "fixed":
        return _behind(projection, first, second)
    return _plain(("touched", [touch_behind(touch, later) for touch, later in zip(first[1], second[1])]))


def _row_by(projection, change, row):
    """What becomes of the row, None for none; of none by a change that is None, too."""
    if change is None:
        return row
    word, told = change
    if word == "fixed":
        return told
    numbers = starts_of(projection) if row is None else row
    return tuple([touched(touch, number) for touch, number in zip(told, numbers)])


def joined(projection, one, other):
    """The summary of two runs, the other one behind the one."""
    return {key: _behind(projection, one.get(key), other.get(key)) for key in _keys_of(one, other)}


def _keys_of(one, other):
    """The keys that either has."""
    return [*one, *[key for key in other if key not in one]]


def applied(projection, summary, table):
    """The table that the summary makes of the table."""
    told = {}
    for key in _keys_of(table, summary):
        row = _row_by(projection, summary.get(key), table.get(key))
        if row is not None:
            told[key] = row
    return told


def apart(projection, one, other):
    """None where two summaries make the same of every table, else a key and a row of which they don't."""
    for key in _keys_of(one, other):
        found = _rows_apart(projection, one.get(key), other.get(key))
        if found:
            return (key, found[0])
    return None


def _rows_apart(projection, one, other):
    """A list of a row, None for none, of which two changes make unlike things, of nothing where there is none."""
    for row in (None, starts_of(projection)):
        if _row_by(projection, one, row) != _row_by(projection, other, row):
            return [row]
    # What takes rows out is told apart by these two from all but its like.
    if one == GONE:
        return []
    starts = starts_of(projection)
    for at, (touch, later) in enumerate(zip(_touches_of(one), _touches_of(other))):
        number = number_apart(touch, later)
        if number is not None:
            return [(*starts[:at], number, *starts[at + 1:])]
    return []


def _touches_of(change):
    """The touches of the cells by a change that leaves the row there."""
    word, told = change
    return [fixed_touch(number) for number in told] if word == "fixed" else told
