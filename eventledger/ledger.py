"""The ledger: a log of events in a store, its kinds, tables and effects."""

from eventledger.batches import need_events, place_told_ahead
from eventledger.carrying import same_deeds
from eventledger.effects import need_rule
from eventledger.errors import BadName, Beyond, Busy, Fell, Gone, Known, NoName, Pending
from eventledger.forms import is_name
from eventledger.opening import entries_of
from eventledger.projections import need_projection
from eventledger.renewing import need_not_needed, renewed
from eventledger.rows import framed
from eventledger.state import state_of
from eventledger.steps import kept_steps
from eventledger.summaries import summed
from eventledger.tree import beginning_paper, root_of, standing_paper
from eventledger.values import shown
from eventledger.views import place_of, rows_of, table_of


class Ledger:
    """Deeds write entries into the store; what is asked is told by the entries that are there."""

    def __init__(self, store):
        self._store = store
        self._is_busy = False
        # The step at which the store fell amid a deed.
        self._fell = None
        self._state = state_of(entries_of(store))

    def _up(self):
        """The state, refused with Fell where a deed fell."""
        if self._fell is not None:
            raise Fell(self._fell)
        return self._state

    def _begin(self):
        """Begin a deed, refused where another one goes on; the state."""
        state = self._up()
        if self._is_busy:
            raise Busy()
        self._is_busy = True
        return state

    def _write(self, entries):
        """Write entries and take them in."""
        self._write_rows(entries)
        for entry in entries:
            self._state.take(entry)

    def _write_rows(self, entries):
        """Write entries, one step each."""
        try:
            for entry in entries:
                self._store.write(framed(shown(entry)))
        except Fell as refusal:
            self._fell = refusal.step
            raise

    def form(self, kind, form):
        """Let in a form as the next version of its kind, which is told."""
        kinds = self._begin().kinds
        try:
            kinds.need_form(kind, form)
            self._write([("form", kind, form)])
            return kinds.versions(kind)
        finally:
            self._is_busy = False

    def upcast(self, kind, start, end, steps):
        """Let in an upcast from a version of the kind to a later one."""
        kinds = self._begin().kinds
        try:
            kinds.need_upcast(kind, start, end, steps)
            self._write([("upcast", kind, start, end, kept_steps(steps))])
        finally:
            self._is_busy = False

    def versions(self, kind):
        """How many versions the kind has, 0 of others."""
        return self._up().kinds.versions(kind)

    def form_of(self, kind, version):
        """The form of a version."""
        return self._up().kinds.form_of(kind, version)

    def tell(self, events, *, expect=None, teller=None, number=None):
        """Tell a batch of events; the position of the first one."""
        state = self._begin()
        try:
            ahead = place_told_ahead(state, events, teller, number)
            if ahead is not None:
                return ahead
            need_events(state, events, expect)
            position = state.end_position()
            rows = [("event", *event) for event in events]
            self._write([("begin", teller, None if teller is None else number, len(rows)), *rows, ("done",)])
            return position
        finally:
            self._is_busy = False

    def last_number(self, teller):
        """The number of the teller's last batch, 0 of others."""
        tellers = self._up().last_batches
        return tellers[teller][0] if isinstance(teller, str) and teller in tellers else 0

    def length(self):
        """How many events were told, those that were let go counted."""
        return self._up().end_position()

    def kept(self):
        """The position from which on events are there."""
        return self._up().first

    def generation(self):
        """How many times events were let go."""
        return self._up().turn

    def event(self, position):
        """The event at the position."""
        return self.events(position, position + 1)[0]

    def events(self, first, last):
        """The events from the first position on, ahead of the last one."""
        state = self._up()
        if first >= last:
            return []
        if first < state.first:
            raise Gone(first)
        if last > state.end_position():
            raise Beyond(max(first, state.end_position()))
        return state.log[first - state.first:last - state.first]

    def busy(self):
        """Whether a deed goes on."""
        return self._is_busy

    def _need_new_name(self, name):
        """Refuse what is no name, or one that a projection or a rule has."""
        if not is_name(name):
            raise BadName()
        if name in self._state.views or name in self._state.duties:
            raise Known(name)

    def project(self, name, projection):
        """Tell a projection by name."""
        state = self._begin()
        try:
            self._need_new_name(name)
            need_projection(state.kinds, projection)
            if state.first > 0:
                raise Gone(0)
            state.need_readable(projection[0], 0)
            self._write([("projection", name, projection)])
        finally:
            self._is_busy = False

    def redefine(self, name, projection):
        """Tell a projection anew; whether it does the same, as same_deeds tells."""
        state = self._begin()
        try:
            elder = state.view(name).definition
            need_projection(state.kinds, projection)
            told = same_deeds(state.kinds, elder, projection)
            state.need_readable(projection[0], 0)
            is_same = told == ("same",)
            if not is_same and state.first > 0:
                raise Gone(0)
            self._write([("projection" if is_same else "anew", name, projection)])
            return told
        finally:
            self._is_busy = False

    def projections(self):
        """The names of the projections, rising."""
        return sorted(self._up().views)

    def table(self, name, *, at=None, since=None):
        """The table of a projection as of a position, the length where none is told; from a snapshot where one is."""
        state = self._up()
        return table_of(state, name, place_of(state, name, at), since)

    def snapshot(self, name, *, at=None):
        """Write a snapshot of a table as of a position, unless there is one; the position."""
        state = self._begin()
        try:
            position = place_of(state, name, at)
            if position not in state.view(name).shots:
                rows = rows_of(table_of(state, name, position, None))
                self._write([("snapshot", name, position, rows)])
            return position
        finally:
            self._is_busy = False

    def snapshots(self, name):
        """The positions of a projection's snapshots, rising."""
        return sorted(self._up().view(name).shots)

    def summary(self, name, first, last):
        """The summary of the events from the first position on, ahead of the last one."""
        state = self._up()
        definition = state.view(name).definition
        return summed(state.kinds, definition, self.events(first, last))

    def rule(self, name, rule, *, position=None):
        """Tell a rule by name, with the position from which on it counts, the length where none is told."""
        state = self._begin()
        try:
            self._need_new_name(name)
            need_rule(state.kinds, rule)
            since = state.end_position() if position is None else position
            if since > state.end_position():
                raise Beyond(since)
            if since < state.first:
                raise Gone(since)
            state.need_readable((rule[:2],), since)
            self._write([("rule", name, rule, since)])
        finally:
            self._is_busy = False

    def end(self, name):
        """End a rule."""
        state = self._begin()
        try:
            duty = state.duty(name)
            if duty.has_ended:
                raise NoName(name)
            if duty.pending is not None:
                raise Pending(duty.pending[0])
            self._write([("end", name)])
        finally:
            self._is_busy = False

    def rules(self):
        """The names of the rules that aren't ended, rising."""
        return self._up().names_of_duties()

    def due(self, name):
        """The effects of a rule that aren't marked as sent, as (position, payload)."""
        return self._up().effects_due(name)

    def intent(self, name):
        """The rule's intent that isn't marked as sent, (position, payload), None where there is none."""
        return self._up().duty(name).pending

    def send(self, sink, *, most=None):
        """Send effects to the sink, which is asked so many times at most; how often it said yes."""
        state = self._begin()
        try:
            asked = 0
            taken = 0
            for name in state.names_of_duties():
                while asked != most:
                    answer = self._ask_sink(sink, name)
                    asked += 0 if answer is None else 1
                    if not answer:
                        break
                    taken += 1
            return taken
        finally:
            self._is_busy = False

    def _ask_sink(self, sink, name):
        """Whether the sink says yes to the rule's next effect; None where there is no such effect."""
        duty = self._state.duty(name)
        due = self._state.effects_due(name, most=1)
        if not due:
            return None
        if duty.pending is None:
            self._write([("intent", name, *due[0])])
        position, payload = duty.pending
        answer = sink(name, position, payload)
        if not isinstance(answer, str) or answer != "yes":
            return False
        self._write([("sent", name, position)])
        return True

    def let_go(self, position):
        """Let go of the events ahead of the position."""
        state = self._begin()
        try:
            if position > state.end_position():
                raise Beyond(position)
            if position > state.first:
                need_not_needed(state, position)
                self._renew(renewed(state, position))
        finally:
            self._is_busy = False

    def _renew(self, entries):
        """Write entries that tell all, and let go of the rows ahead of them."""
        many = len(self._store.rows())
        self._write_rows(entries)
        try:
            self._store.let_go(many)
        except Fell as refusal:
            self._fell = refusal.step
            raise
        self._state = state_of(entries)

    def _sums(self, length):
        """The sums of the events ahead of the length, the log's one where it is None."""
        state = self._up()
        if length is None:
            return list(state.sums)
        if length > state.end_position():
            raise Beyond(length)
        return state.sums[:length]

    def root(self, *, length=None):
        """The root of a length."""
        return root_of(self._sums(length))

    def standing(self, position, *, length=None):
        """The paper that an event stands at the position of the log of a length."""
        sums = self._sums(length)
        if position >= len(sums):
            raise Beyond(position)
        return standing_paper(sums, position)

    def beginning(self, shorter, *, length=None):
        """The paper that the log of the shorter length is a beginning of that of a length."""
        sums = self._sums(length)
        if shorter > len(sums):
            raise Beyond(shorter)
        return beginning_paper(sums, shorter)
