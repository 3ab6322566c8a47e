"""Opening: the entries that a store has, and what a fall left of others put away."""

from eventledger.errors import Flipped
from eventledger.rows import body_of
from eventledger.values import read


def entries_of(store):
    """The entries in the store's rows; those that don't count are cut off and let go.

    Refused with Flipped where a row that counts isn't as it was written.
    """
    bodies = [body_of(row) for row in store.rows()]
    if bodies and bodies[-1] is None:
        store.cut()
        bodies.pop()
    start = _start_of(bodies)
    for at in range(start, len(bodies)):
        if bodies[at] is None:
            raise Flipped(at)
    entries = [read(body) for body in bodies[start:]]
    whole = _many_whole(entries)
    for _ in range(len(entries) - whole):
        store.cut()
    if start > 0:
        store.let_go(start)
    return entries[:whole]


def _start_of(bodies):
    """The place of the last new whose head stands, 0 where there is none; bodies are None of rows that are none."""
    heads = {}
    # From the last one on, because what is ahead of that new isn't looked at.
    for at in reversed(range(len(bodies))):
        body = "" if bodies[at] is None else bodies[at]
        if body.startswith('("head" '):
            heads[read(body)[1]] = True
        elif body.startswith('("new" ') and read(body)[1] in heads:
            return at
    return 0


def _many_whole(entries):
    """How many of the entries are ahead of a batch without its done, or a new without its head."""
    new_at = None
    batch_at = None
    for at, entry in enumerate(entries):
        if entry[0] == "new":
            new_at = at
        elif entry[0] == "head":
            new_at = None
        elif entry[0] == "begin":
            batch_at = at
        elif entry[0] == "done":
            batch_at = None
    # A batch in a new goes with it.
    for at in (new_at, batch_at):
        if at is not None:
            return at
    return len(entries)
