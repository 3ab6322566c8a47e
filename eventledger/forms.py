"""Forms of events, and which values fit them."""

from eventledger.values import is_text

MOST_FIELDS = 6
LONGEST_NAME = 12
LONGEST_WORD = 8
LONGEST_TEXT = 40
SORTS = ("code", "amount", "word", "text")


def is_form(thing):
    """Whether it is a form; told of anything."""
    if not isinstance(thing, tuple) or not 1 <= len(thing) <= MOST_FIELDS:
        return False
    if not all([_is_field(part) for part in thing]):
        return False
    return len({part[0] for part in thing}) == len(thing)


def _is_field(thing):
    """Whether it is a name with a sort."""
    return isinstance(thing, tuple) and len(thing) == 2 and is_name(thing[0]) and is_sort(thing[1])


def fits(form, values):
    """Whether it is a form and these are values that fit it; told of anything."""
    if not is_form(form) or not isinstance(values, tuple) or len(values) != len(form):
        return False
    return all([is_of_sort(value, sort) for value, (_, sort) in zip(values, form)])


def is_sort(thing):
    """Whether it is a sort."""
    return isinstance(thing, str) and thing in SORTS


def is_of_sort(value, sort):
    """Whether the value, of anything, is one of the sort."""
    if sort == "word":
        return _is_small(value, LONGEST_WORD)
    if sort == "text":
        return is_text(value) and len(value) <= LONGEST_TEXT
    return is_whole(value)


def is_whole(thing):
    """Whether it is a whole number."""
    # True and False are ints to Python.
    return isinstance(thing, int) and not isinstance(thing, bool)


def is_name(thing):
    """Whether it is a name."""
    return _is_small(thing, LONGEST_NAME)


def _is_small(thing, longest):
    """Whether it is a text of small letters, of one to as many as the longest has."""
    if not isinstance(thing, str) or not 1 <= len(thing) <= longest:
        return False
    return all(["a" <= sign <= "z" for sign in thing])
