"""Batches of events: which are let in, and which were told ahead."""

from eventledger.errors import BadName, Conflict, NoWay, Stale, Strange, Unnumbered
from eventledger.forms import fits, is_name

MOST_EVENTS = 20


def place_told_ahead(state, events, teller, number):
    """The position of the batch where it is its teller's last one, None where it is a new one."""
    if not 1 <= len(events) <= MOST_EVENTS:
        raise Strange()
    if teller is None:
        return None
    if not is_name(teller):
        raise BadName()
    if number is None:
        return None
    last, position = state.last_batches.get(teller, (0, None))
    if number == last and position is not None:
        return position
    if number != last + 1:
        raise Unnumbered(last + 1)
    return None


def need_events(state, events, expect):
    """Refuse events that aren't let in behind the log."""
    if expect is not None and expect != state.end_position():
        raise Conflict(expect, state.end_position())
    readers = state.readers()
    for kind, version, values in events:
        if not fits(state.kinds.form_of(kind, version), values):
            raise Strange()
        _need_read(state.kinds, kind, version, readers)


def _need_read(kinds, kind, version, readers):
    """Refuse an event that one who reads its kind can't read."""
    lates = [(name, late) for name, read_kind, late in readers if read_kind == kind]
    for name, late in lates:
        if late < version:
            raise Stale(name)
    for _, late in lates:
        if not kinds.is_way(kind, version, late):
            raise NoWay(version, late)
