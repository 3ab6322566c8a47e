"""Letting go: the entries that tell all that can still be asked."""

from eventledger.batches import MOST_EVENTS
from eventledger.errors import Needed
from eventledger.views import rows_of, table_of


def need_not_needed(state, position):
    """Refuse with Needed where a rule has an effect ahead of the position that isn't marked."""
    for name in state.names_of_duties():
        for at, _ in state.effects_due(name, most=1):
            if at < position:
                raise Needed(name, at)


def renewed(state, position):
    """The entries that tell what is told but the events ahead of the position."""
    turn = state.turn + 1
    tellers = state.last_batches
    entries = [("new", turn), *state.shapes, ("let", position, tuple(state.sums[:position]))]
    entries.extend([("teller", teller, *tellers[teller]) for teller in sorted(tellers)])
    entries.extend(_batches(state.log[position - state.first:]))
    for name in sorted(state.views):
        entries.extend(_entries_of_view(state, name, position))
    for name in sorted(state.duties):
        entries.extend(_entries_of_duty(state, name, position))
    entries.append(("head", turn))
    return entries


def _batches(events):
    """The entries of the events, in batches as great as may be."""
    entries = []
    for start in range(0, len(events), MOST_EVENTS):
        batch = events[start:start + MOST_EVENTS]
        entries.extend([("begin", None, None, len(batch)), *[("event", *event) for event in batch], ("done",)])
    return entries


def _entries_of_view(state, name, position):
    """The entries of a projection: with its snapshots, and one at the position."""
    view = state.view(name)
    tables = {at: view.shots[at] for at in view.shots}
    tables[position] = table_of(state, name, position, None)
    shots = [("snapshot", name, at, rows_of(tables[at])) for at in sorted(tables)]
    return [("projection", name, view.definition), *shots]


def _entries_of_duty(state, name, position):
    """The entries of a rule: which effects of the events that stay are marked, its intent, its end."""
    duty = state.duty(name)
    entries = [("rule", name, duty.definition, duty.since)]
    if duty.has_ended:
        return [*entries, ("end", name)]
    marked = state.effects(duty, max(duty.since, position), duty.unmarked)
    entries.extend([("sent", name, at) for at, _ in marked])
    if duty.pending is not None:
        entries.append(("intent", name, *duty.pending))
    return entries
