"""What entries tell: the state of a ledger, made of its entries one by one."""

from eventledger.effects import payload_of
from eventledger.errors import Needs, NoName
from eventledger.kinds import Kinds
from eventledger.tree import leaf


class View:
    """A projection that is told by name, with its snapshots: tables by positions."""

    def __init__(self, definition):
        self.definition = definition
        self.shots = {}


class Duty:
    """A rule that is told by name, and how far its effects are sent."""

    def __init__(self, definition, since):
        self.definition = definition
        # The position from which on it counts.
        self.since = since
        # Effects are marked as sent in order: all of those ahead of this position are.
        self.unmarked = since
        # The intent that isn't marked, (position, payload).
        self.pending = None
        self.has_ended = False


class State:
    """All that is told by the entries that were taken."""

    def __init__(self):
        self.kinds = Kinds()
        # The entries of forms and upcasts, in order.
        self.shapes = []
        # The events that are there, the position of the first of them, and the sums of all events.
        self.log = []
        self.first = 0
        self.sums = []
        # For each teller that numbers batches the number and the position of its last one.
        self.last_batches = {}
        self.views = {}
        self.duties = {}
        self.turn = 0

    def end_position(self):
        """The length of the log, those that were let go counted."""
        return len(self.sums)

    def view(self, name):
        """The projection of this name; refused with NoName where there is none."""
        if not isinstance(name, str) or name not in self.views:
            raise NoName(name)
        return self.views[name]

    def duty(self, name):
        """The rule of this name, also an ended one; refused with NoName where there is none."""
        if not isinstance(name, str) or name not in self.duties:
            raise NoName(name)
        return self.duties[name]

    def names_of_duties(self):
        """The names of the rules that aren't ended, rising."""
        return [name for name in sorted(self.duties) if not self.duties[name].has_ended]

    def readers(self):
        """(name, kind, version) for each version that a projection, or a rule not ended, reads, names rising."""
        told = []
        for name in self.views:
            told.extend([(name, kind, version) for kind, version in self.views[name].definition[0]])
        for name in self.names_of_duties():
            told.append((name, *self.duties[name].definition[:2]))
        return sorted(told)

    def need_readable(self, reads, start):
        """Refuse with Needs where, from the start on, an event can't be raised to the version read."""
        for at in range(max(start, self.first), self.end_position()):
            kind, version, _ = self.log[at - self.first]
            for name, late in reads:
                if name == kind and not self.kinds.is_way(kind, version, late):
                    raise Needs(at)

    def effects_due(self, name, *, most=None):
        """So many first effects of the rule that aren't marked, all where no number is told; none of an ended one."""
        duty = self.duty(name)
        if duty.has_ended:
            return []
        return self.effects(duty, duty.unmarked, self.end_position(), most=most)

    def effects(self, duty, start, end, *, most=None):
        """So many first effects, (position, payload), of a rule by events from the start on, ahead of the end."""
        told = []
        for at in range(max(start, self.first), end):
            if len(told) == most:
                break
            payload = payload_of(self.kinds, duty.definition, self.log[at - self.first])
            if payload is not None:
                told.append((at, payload))
        return told

    def take(self, entry):
        """Take in an entry."""
        action = ACTIONS[entry[0]]
        action(self, entry)


def _take_form(state, entry):
    _, kind, form = entry
    state.kinds.form(kind, form)
    state.shapes.append(entry)


def _take_upcast(state, entry):
    _, kind, start, end, steps = entry
    state.kinds.add_upcast(kind, start, end, steps)
    state.shapes.append(entry)


def _take_begin(state, entry):
    _, teller, number, _ = entry
    if number is not None:
        state.last_batches[teller] = (number, state.end_position())


def _take_event(state, entry):
    event = entry[1:]
    state.sums.append(leaf(state.end_position(), event))
    state.log.append(event)


def _take_projection(state, entry):
    _, name, definition = entry
    view = state.views.get(name)
    if view is None:
        state.views[name] = View(definition)
    else:
        view.definition = definition


def _take_anew(state, entry):
    _, name, definition = entry
    state.views[name] = View(definition)


def _take_snapshot(state, entry):
    _, name, position, rows = entry
    view = state.views[name]
    view.shots[position] = {key: numbers for key, numbers in rows}


def _take_rule(state, entry):
    _, name, definition, position = entry
    state.duties[name] = Duty(definition, position)


def _take_intent(state, entry):
    _, name, position, payload = entry
    duty = state.duties[name]
    duty.pending = (position, payload)


def _take_sent(state, entry):
    _, name, position = entry
    duty = state.duties[name]
    duty.unmarked = position + 1
    duty.pending = None


def _take_end(state, entry):
    duty = state.duties[entry[1]]
    duty.has_ended = True


def _take_new(state, entry):
    state.turn = entry[1]


def _take_let(state, entry):
    _, position, sums = entry
    state.first = position
    state.sums = list(sums)


def _take_teller(state, entry):
    _, teller, number, position = entry
    state.last_batches[teller] = (number, position)


def _take_mark(state, entry):
    """Take in an entry that tells only that others are whole."""


ACTIONS = {
    "form": _take_form,
    "upcast": _take_upcast,
    "begin": _take_begin,
    "event": _take_event,
    "done": _take_mark,
    "projection": _take_projection,
    "anew": _take_anew,
    "snapshot": _take_snapshot,
    "rule": _take_rule,
    "intent": _take_intent,
    "sent": _take_sent,
    "end": _take_end,
    "new": _take_new,
    "let": _take_let,
    "teller": _take_teller,
    "head": _take_mark,
}


def state_of(entries):
    """The state that the entries tell."""
    state = State()
    for entry in entries:
        state.take(entry)
    return state
