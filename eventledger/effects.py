"""Rules of effects: what is one, and what it makes of an event."""

from eventledger.conditions import are_conditions, hold
from eventledger.errors import BadRule
from eventledger.forms import is_name, is_whole
from eventledger.values import is_value

MOST_PARTS = 4


def need_rule(kinds, thing):
    """Refuse what is no rule of these kinds; told of anything."""
    if not isinstance(thing, tuple) or len(thing) != 4:
        raise BadRule()
    kind, version, conditions, payload = thing
    if not is_name(kind) or not is_whole(version) or not _is_payload(payload):
        raise BadRule()
    sorts = {field: sort for field, sort in kinds.form_of(kind, version)}
    if not all([word == "value" or part in sorts for word, part in payload]):
        raise BadRule()
    if not are_conditions(sorts, conditions):
        raise BadRule()


def _is_payload(thing):
    """Whether it is one to four names of fields, and values."""
    if not isinstance(thing, tuple) or not 1 <= len(thing) <= MOST_PARTS:
        return False
    return all([_is_payload_part(part) for part in thing])


def _is_payload_part(part):
    """Whether it names a field, or is a value."""
    if not isinstance(part, tuple) or len(part) != 2 or not isinstance(part[0], str):
        return False
    word, thing = part
    if word == "field":
        return is_name(thing)
    return word == "value" and is_value(thing)


def payload_of(kinds, rule, event):
    """The payload of the effect that the rule makes of the event, None where it makes none."""
    late_kind, late, conditions, payload = rule
    kind, version, values = event
    if kind != late_kind:
        return None
    raised = kinds.raised(kind, version, values, to=late)
    held = {field: value for (field, _), value in zip(kinds.form_of(kind, late), raised)}
    if not hold(conditions, held):
        return None
    return tuple([held[thing] if word == "field" else thing for word, thing in payload])
