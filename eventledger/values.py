"""Values, written as texts and read from them."""

from eventledger.errors import NoValue

MOST_FIGURES = 40
# The first number of more figures than that.
BOUND = 10 ** 40
# A number, because the sign itself must not stand in a string of the package (L27).
PERCENT = 37
SIGNS = {"-": None, "+": True, "!": False}


def shown(value):
    """The text that writes the value."""
    pieces = []
    # A list of what is still to be written instead of calls within calls: values may be deep.
    waiting = [(value, False)]
    while waiting:
        thing, is_written = waiting.pop()
        if is_written:
            pieces.append(thing)
        elif isinstance(thing, tuple):
            pieces.append("(")
            waiting.append((")", True))
            for at in reversed(range(len(thing))):
                waiting.append((thing[at], False))
                if at > 0:
                    waiting.append((" ", True))
        else:
            pieces.append(_shown_flat(thing))
    return "".join(pieces)


def _shown_flat(value):
    """The text that writes a value that is no tuple."""
    if value is None:
        return "-"
    # Ahead of the numbers, because True and False are ints to Python.
    if value is True:
        return "+"
    if value is False:
        return "!"
    if isinstance(value, str):
        return '"' + value.replace('"', '""') + '"'
    return str(value)


def read(text):
    """The value that the text writes; refused with NoValue where it writes none."""
    # The values so far of each tuple that isn't closed, the outer ones first; ahead of them
    # a list that takes the whole value.
    lists = [[]]
    at = 0
    while True:
        if text[at:at + 1] == "(":
            lists.append([])
            at += 1
            if text[at:at + 1] != ")":
                continue
        else:
            value, at = _read_flat(text, at)
            lists[-1].append(value)
        at = _close_tuples(text, at, lists)
        if len(lists) == 1:
            break
        if text[at:at + 1] != " ":
            raise NoValue(at)
        at += 1
    if at < len(text):
        raise NoValue(at)
    return lists[0][0]


def _close_tuples(text, at, lists):
    """Close a tuple for each bracket that stands at the place; the place behind them."""
    while len(lists) > 1 and text[at:at + 1] == ")":
        closed = tuple(lists.pop())
        lists[-1].append(closed)
        at += 1
    return at


def _read_flat(text, at):
    """The value, no tuple, that is written from the place on, and the place behind it."""
    sign = text[at:at + 1]
    if sign == '"':
        return _read_text(text, at + 1)
    behind = _behind_number(text, at)
    if behind > at:
        return int(text[at:behind]), behind
    if sign in SIGNS:
        return SIGNS[sign], at + 1
    raise NoValue(at)


def _behind_number(text, at):
    """The place behind the number that is written from the place on, the place itself if none is."""
    if text[at:at + 1] == "0":
        return at + 1
    first = at + 1 if text[at:at + 1] == "-" else at
    if not "1" <= text[first:first + 1] <= "9":
        return at
    behind = first + 1
    while behind < first + MOST_FIGURES and "0" <= text[behind:behind + 1] <= "9":
        behind += 1
    return behind


def _read_text(text, at):
    """The text that is written behind its first quote, at the place, and the place behind it."""
    pieces = []
    while True:
        end = _behind_plain_signs(text, at)
        pieces.append(text[at:end])
        if text[end:end + 1] != '"':
            raise NoValue(end)
        if text[end + 1:end + 2] != '"':
            return "".join(pieces), end + 1
        pieces.append('"')
        at = end + 2


def _behind_plain_signs(text, at):
    """The place of the first sign, from the place on, that doesn't stand in a text as it is."""
    while _is_plain(text[at:at + 1]):
        at += 1
    return at


def _is_plain(sign):
    """Whether the sign (none, at the end) stands in the writing of a text as it is."""
    return is_sign(sign) and sign != '"'


def is_sign(sign):
    """Whether the sign is one of those that texts have."""
    return " " <= sign <= "~" and ord(sign) != PERCENT


def is_text(thing):
    """Whether it is a text; told of anything."""
    return isinstance(thing, str) and all([is_sign(sign) for sign in thing])


def is_value(thing):
    """Whether it is a value; told of anything."""
    # A list of what is still to be looked at, as in shown.
    waiting = [thing]
    while waiting:
        part = waiting.pop()
        if isinstance(part, tuple):
            waiting.extend(part)
        elif isinstance(part, int):
            # True and False have one figure, too.
            if abs(part) >= BOUND:
                return False
        elif part is not None and not is_text(part):
            return False
    return True
