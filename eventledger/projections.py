"""Projections: what rules do by events, and the tables that this makes."""

from eventledger.conditions import are_conditions, hold
from eventledger.errors import BadProjection, Unread
from eventledger.forms import is_name, is_of_sort, is_whole
from eventledger.steps import NUMBERS, TESTED

MOST_CELLS = 4
MOST_RULES = 8
LONGEST_KEY = 3
CHANGES = ("add", "least", "most", "set")
FORGET = (("forget",),)


def need_projection(kinds, thing):
    """Refuse what is no projection of these kinds; told of anything."""
    if not _is_tuple(thing, 3) or not _are_reads(thing[0]):
        raise BadProjection("reads")
    reads, cells, rules = thing
    sorts_of = {}
    for kind, version in reads:
        sorts_of[kind] = {field: sort for field, sort in kinds.form_of(kind, version)}
    if not _are_cells(cells):
        raise BadProjection("cells")
    cell_names = [cell for cell, _ in cells]
    if not isinstance(rules, tuple) or len(rules) > MOST_RULES:
        raise BadProjection("rules")
    if not all([_is_rule(sorts_of, cell_names, rule) for rule in rules]):
        raise BadProjection("rules")


def _is_tuple(thing, many):
    """Whether it is a tuple of so many."""
    return isinstance(thing, tuple) and len(thing) == many


def _is_number_by_name(thing):
    """Whether it is a name with a whole number."""
    return _is_tuple(thing, 2) and is_name(thing[0]) and is_whole(thing[1])


def _are_reads(thing):
    """Whether these are names, rising, with versions."""
    if not isinstance(thing, tuple) or not all([_is_number_by_name(part) for part in thing]):
        return False
    return all([thing[at][0] < thing[at + 1][0] for at in range(len(thing) - 1)])


def _are_cells(thing):
    """Whether these are cells with their starts."""
    if not isinstance(thing, tuple) or not 1 <= len(thing) <= MOST_CELLS:
        return False
    if not all([_is_number_by_name(part) for part in thing]):
        return False
    return len({part[0] for part in thing}) == len(thing)


def _is_rule(sorts_of, cell_names, thing):
    """Whether it is a rule of one of the kinds, of whose fields the sorts are told."""
    if not _is_tuple(thing, 4):
        return False
    kind, conditions, key, deeds = thing
    if not isinstance(kind, str) or kind not in sorts_of:
        return False
    sorts = sorts_of[kind]
    return are_conditions(sorts, conditions) and _is_key(sorts, key) and _are_deeds(sorts, cell_names, deeds)


def _is_key(sorts, thing):
    """Whether it tells the key of a row."""
    if not isinstance(thing, tuple) or len(thing) > LONGEST_KEY:
        return False
    return all([_is_key_part(sorts, part) for part in thing])


def _is_key_part(sorts, part):
    """Whether it is a field, a code or a word, or such a value."""
    if not _is_tuple(part, 2) or not isinstance(part[0], str):
        return False
    word, thing = part
    if word == "field":
        return isinstance(thing, str) and sorts.get(thing) in TESTED
    return word == "value" and any([is_of_sort(thing, sort) for sort in TESTED])


def _are_deeds(sorts, cell_names, thing):
    """Whether these are deeds on cells, or the one that takes the row out."""
    if not isinstance(thing, tuple) or not thing:
        return False
    return _is_forget(thing) or all([_is_change(sorts, cell_names, deed) for deed in thing])


def _is_forget(deeds):
    """Whether these, one or more, are the one deed that takes a row out."""
    # The word is asked ahead of comparing, as what stands there may compare as it likes.
    return _is_tuple(deeds[0], 1) and isinstance(deeds[0][0], str) and deeds == FORGET


def _is_change(sorts, cell_names, thing):
    """Whether it changes a cell by an amount."""
    if not _is_tuple(thing, 3) or not isinstance(thing[0], str) or not isinstance(thing[1], str):
        return False
    word, cell, amount = thing
    return word in CHANGES and cell in cell_names and _is_amount(sorts, amount)


def _is_amount(sorts, amount):
    """Whether it is a number, or a field that is one."""
    if not _is_tuple(amount, 2) or not isinstance(amount[0], str):
        return False
    word, thing = amount
    if word == "field":
        return isinstance(thing, str) and sorts.get(thing) in NUMBERS
    return word == "number" and is_whole(thing)


def deeds_of(kinds, projection, event):
    """What the projection does by the event: a list of (key, word, cell, number)."""
    kind, version, values = event
    reads, _, rules = projection
    versions = [late for name, late in reads if name == kind]
    if not versions:
        return []
    if is_whole(version) and version > versions[0]:
        raise Unread(kind)
    raised = kinds.raised(kind, version, values, to=versions[0])
    held = {field: value for (field, _), value in zip(kinds.form_of(kind, versions[0]), raised)}
    told = []
    for name, conditions, key, deeds in rules:
        if name == kind and hold(conditions, held):
            told.extend(_deeds_told(key, deeds, held))
    return told


def _deeds_told(key, deeds, held):
    """The deeds of a rule whose conditions hold, where the fields hold these values."""
    values = tuple([_told(part, held) for part in key])
    if deeds == FORGET:
        return [(values, "forget", None, None)]
    return [(values, word, cell, _told(amount, held)) for word, cell, amount in deeds]


def _told(part, held):
    """The value of a part of a key, or of an amount."""
    word, thing = part
    return held[thing] if word == "field" else thing


def starts_of(projection):
    """The numbers with which a row begins."""
    return tuple([start for _, start in projection[1]])


def fold(kinds, projection, events, *, table=None):
    """The table that the events make of a table, of none where it is None."""
    told = {} if table is None else {key: table[key] for key in table}
    for event in events:
        for deed in deeds_of(kinds, projection, event):
            _do_deed(told, projection, deed)
    return told


def _do_deed(table, projection, deed):
    """Do a deed on the table."""
    key, word, cell, number = deed
    if word == "forget":
        table.pop(key, None)
        return
    row = table.get(key, starts_of(projection))
    cells = [name for name, _ in projection[1]]
    table[key] = tuple([
        _changed(word, held, number) if name == cell else held for name, held in zip(cells, row)])


def _changed(word, held, number):
    """The number that a cell holds behind a change."""
    if word == "add":
        return held + number
    if word == "least":
        return max(held, number)
    if word == "most":
        return min(held, number)
    return number
