"""Conditions of rules: fields of an event with the values that they must have."""

from eventledger.forms import is_of_sort
from eventledger.steps import TESTED


def are_conditions(sorts, thing):
    """Whether these are conditions on fields of the sorts, told of anything."""
    if not isinstance(thing, tuple) or not all([_is_condition(sorts, part) for part in thing]):
        return False
    return len({part[0] for part in thing}) == len(thing)


def _is_condition(sorts, thing):
    """Whether it is a field, a code or a word, with a value of its sort."""
    if not isinstance(thing, tuple) or len(thing) != 2 or not isinstance(thing[0], str):
        return False
    sort = sorts.get(thing[0])
    return sort in TESTED and is_of_sort(thing[1], sort)


def hold(conditions, held):
    """Whether all conditions hold where the fields hold these values."""
    return all([held[field] == value for field, value in conditions])
