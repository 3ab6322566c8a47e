"""Tables of a ledger, as of positions and from snapshots."""

from eventledger.errors import Beyond, Gone, NoSnapshot
from eventledger.projections import fold
from eventledger.values import shown


def place_of(state, name, at):
    """The position as of which a table is asked, the length where none is told; refused where there is no table."""
    view = state.view(name)
    position = state.end_position() if at is None else at
    if position > state.end_position():
        raise Beyond(position)
    if position < state.first and position not in view.shots:
        raise Gone(position)
    return position


def table_of(state, name, position, since):
    """The table as of a position that there is, from the snapshot at another one unless that is None."""
    view = state.view(name)
    if since is not None:
        if since not in view.shots or since > position:
            raise NoSnapshot(since)
        if since < state.first and since < position:
            raise Gone(since)
    # Behind letting go there is a snapshot at the first event that is there.
    start = min(position, state.first) if since is None else since
    events = state.log[start - state.first:position - state.first] if start < position else []
    return fold(state.kinds, view.definition, events, table=view.shots.get(start, {}))


def rows_of(table):
    """The table's (key, numbers), rising as their writings."""
    return tuple(sorted([(key, table[key]) for key in table], key=shown))
