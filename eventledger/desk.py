"""The desk: rows that are told to a ledger, and its answers."""

from eventledger.errors import NoAsk, NoValue
from eventledger.forms import is_whole
from eventledger.ledger import Ledger
from eventledger.store import Store
from eventledger.values import is_text, read, shown
from eventledger.views import rows_of

TAKING = "yl"
SAYING = {"y": "yes", "n": "no", "l": None}


class Taker:
    """A sink that does with what it is handed as it is told, sign by sign."""

    def __init__(self, book, answers):
        self._book = book
        self._answers = answers
        self._asked = 0

    def offered(self, rule, position, payload):
        """What the sink says of the effect."""
        sign = self._answers[self._asked]
        self._asked += 1
        # One that isn't behind the last one of its rule was taken ahead.
        taken = [at for name, at, _ in self._book if name == rule]
        if sign in TAKING and position > max(taken, default=-1):
            self._book.append((rule, position, payload))
        return SAYING[sign]


class Desk:
    """A store, a ledger on it, and the book of a sink."""

    def __init__(self):
        self.store = Store()
        self.book = []
        self.clerk = Ledger(self.store)

    def say(self, row):
        """The answer to a row; refused with NoAsk where it is none, then as the ledger refuses."""
        if not is_text(row):
            raise NoAsk(row)
        word = row.partition(" ")[0]
        if word not in SHAPES:
            raise NoAsk(row)
        things = _things_of(row, _shape_of(word, row))
        answer = ANSWERS[word]
        return answer(self, *things)


def _shape_of(word, row):
    """The things that stand behind the word."""
    # Of a table the position may be told, too.
    if word == "table" and row.count(" ") > 1:
        return ("name", "number")
    return SHAPES[word]


def _things_of(row, shape):
    """The things behind the row's word, read; refused with NoAsk where they aren't of the shape."""
    pieces = row.split(" ", len(shape))[1:]
    if len(pieces) != len(shape) or (not shape and " " in row):
        raise NoAsk(row)
    things = []
    for piece, sort in zip(pieces, shape):
        reader = READERS[sort]
        thing = reader(row, piece)
        fit = CHECKS[sort]
        if not fit(thing):
            raise NoAsk(row)
        things.append(thing)
    return things


def _as_it_is(_, piece):
    """The piece itself."""
    return piece


def _as_value(row, piece):
    """The value that the piece of the row writes."""
    try:
        return read(piece)
    except NoValue:
        raise NoAsk(row) from None


def _is_word(piece):
    """Whether it is a word of one sign or more."""
    return piece != "" and " " not in piece


def _are_answers(piece):
    """Whether it tells what the sink does, once or more."""
    return piece != "" and all([sign in SAYING for sign in piece])


def _is_number(thing):
    """Whether the value is a number from 0 on."""
    return is_whole(thing) and thing >= 0


def _is_any(_):
    return True


def _are_events(thing):
    """Whether the value is a tuple of what may be told as events."""
    return isinstance(thing, tuple) and all([_is_event(part) for part in thing])


def _is_event(thing):
    """Whether the value is a tuple of a text, a whole number and a tuple."""
    if not isinstance(thing, tuple) or len(thing) != 3:
        return False
    kind, version, values = thing
    return isinstance(kind, str) and is_whole(version) and isinstance(values, tuple)


READERS = {
    "name": _as_it_is, "answers": _as_it_is, "number": _as_value, "value": _as_value, "events": _as_value,
}
CHECKS = {
    "name": _is_word, "answers": _are_answers, "number": _is_number, "value": _is_any, "events": _are_events,
}
SHAPES = {
    "form": ("name", "value"),
    "upcast": ("name", "number", "number", "value"),
    "tell": ("events",),
    "project": ("name", "value"),
    "redefine": ("name", "value"),
    "rule": ("name", "value"),
    "end": ("name",),
    "snapshot": ("name", "number"),
    "letgo": ("number",),
    "send": ("answers",),
    "table": ("name",),
    "length": (),
    "root": (),
    "event": ("number",),
    "book": (),
    "rows": (),
    "fall": ("number", "number"),
    "open": (),
}


def _say_form(desk, kind, form):
    return shown(desk.clerk.form(kind, form))


def _say_upcast(desk, kind, start, end, steps):
    desk.clerk.upcast(kind, start, end, steps)
    return "ok"


def _say_tell(desk, events):
    return shown(desk.clerk.tell(events))


def _say_project(desk, name, projection):
    desk.clerk.project(name, projection)
    return "ok"


def _say_redefine(desk, name, projection):
    return desk.clerk.redefine(name, projection)[0]


def _say_rule(desk, name, rule):
    desk.clerk.rule(name, rule)
    return "ok"


def _say_end(desk, name):
    desk.clerk.end(name)
    return "ok"


def _say_snapshot(desk, name, position):
    desk.clerk.snapshot(name, at=position)
    return "ok"


def _say_letgo(desk, position):
    desk.clerk.let_go(position)
    return "ok"


def _say_send(desk, answers):
    sink = Taker(desk.book, answers)
    return shown(desk.clerk.send(sink.offered, most=len(answers)))


def _say_table(desk, name, position=None):
    return shown(rows_of(desk.clerk.table(name, at=position)))


def _say_length(desk):
    return shown(desk.clerk.length())


def _say_root(desk):
    return shown(desk.clerk.root())


def _say_event(desk, position):
    return shown(desk.clerk.event(position))


def _say_book(desk):
    return shown(tuple(desk.book))


def _say_rows(desk):
    return shown(len(desk.store.rows()))


def _say_fall(desk, steps, signs):
    desk.store.fall_at(desk.store.steps() + steps, signs=signs)
    return "ok"


def _say_open(desk):
    store = Store(desk.store.rows())
    desk.clerk = Ledger(store)
    desk.store = store
    return "ok"


ANSWERS = {
    "form": _say_form,
    "upcast": _say_upcast,
    "tell": _say_tell,
    "project": _say_project,
    "redefine": _say_redefine,
    "rule": _say_rule,
    "end": _say_end,
    "snapshot": _say_snapshot,
    "letgo": _say_letgo,
    "send": _say_send,
    "table": _say_table,
    "length": _say_length,
    "root": _say_root,
    "event": _say_event,
    "book": _say_book,
    "rows": _say_rows,
    "fall": _say_fall,
    "open": _say_open,
}
