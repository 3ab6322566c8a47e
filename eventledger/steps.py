"""Steps, which lead from the fields of a form to others."""

from eventledger.errors import BadStep
from eventledger.forms import MOST_FIELDS, is_name, is_of_sort, is_sort, is_whole

NUMBERS = ("code", "amount")
TESTED = ("code", "word")
JOINED = ("word", "text")
MOST_SUMMED = 6
MOST_PARTS = 8
MOST_ROWS = 4
LONGEST_SAYING = 12
SAYING_SIGNS = "abcdefghijklmnopqrstuvwxyz0123456789 -"


def form_behind(form, steps):
    """The form that the steps lead to from the form; refused with BadStep where they don't fit."""
    sorts = _sorts_behind({field: sort for field, sort in form}, steps)
    if not 1 <= len(sorts) <= MOST_FIELDS:
        raise BadStep(len(steps))
    return tuple(sorts.items())


def _sorts_behind(sorts, steps):
    """The sorts of the fields behind the steps, in order; refused with BadStep where one doesn't fit."""
    if not isinstance(steps, (list, tuple)):
        raise BadStep(0)
    for at, step in enumerate(steps):
        sorts = _sorts_behind_step(sorts, step)
        if sorts is None:
            raise BadStep(at)
    return sorts


def _sorts_behind_step(sorts, step):
    """The sorts of the fields behind a step, None where it doesn't fit; told of anything."""
    # A word of another kind may be no key of a dict.
    if not isinstance(step, tuple) or not step or not isinstance(step[0], str):
        return None
    if LENGTHS.get(step[0], 0) != len(step):
        return None
    lead = LEADS[step[0]]
    return lead(sorts, step)


def _sort_of(sorts, field):
    """The sort of a field, None of anything that isn't there."""
    return sorts.get(field) if isinstance(field, str) else None


def _is_new(sorts, field):
    """Whether it is a name that isn't there."""
    return is_name(field) and field not in sorts


def _behind_rename(sorts, step):
    _, old, new = step
    if _sort_of(sorts, old) is None or not _is_new(sorts, new):
        return None
    return {new if field == old else field: sort for field, sort in sorts.items()}


def _behind_copy(sorts, step):
    _, old, new = step
    if _sort_of(sorts, old) is None or not _is_new(sorts, new):
        return None
    return {**sorts, new: sorts[old]}


def _behind_drop(sorts, step):
    _, old = step
    if _sort_of(sorts, old) is None:
        return None
    return {field: sort for field, sort in sorts.items() if field != old}


def _behind_put(sorts, step):
    _, new, sort, value = step
    if not _is_new(sorts, new) or not is_sort(sort) or not is_of_sort(value, sort):
        return None
    return {**sorts, new: sort}


def _behind_scale(sorts, step):
    _, field, times, plus = step
    if _sort_of(sorts, field) not in NUMBERS or not is_whole(times) or not is_whole(plus):
        return None
    return sorts


def _behind_sum(sorts, step):
    _, new, fields = step
    if not _is_new(sorts, new) or not isinstance(fields, tuple) or not 1 <= len(fields) <= MOST_SUMMED:
        return None
    if not all([_sort_of(sorts, field) in NUMBERS for field in fields]):
        return None
    return {**sorts, new: "amount"}


def _behind_join(sorts, step):
    _, new, parts = step
    if not _is_new(sorts, new) or not isinstance(parts, tuple) or not 1 <= len(parts) <= MOST_PARTS:
        return None
    if not all([_is_part(sorts, part) for part in parts]):
        return None
    return {**sorts, new: "text"}


def _is_part(sorts, part):
    """Whether it is a part of a join."""
    if not isinstance(part, tuple) or len(part) != 2:
        return False
    word, thing = part
    if not isinstance(word, str):
        return False
    if word == "say":
        return _is_saying(thing)
    return word == "field" and _sort_of(sorts, thing) in JOINED


def _is_saying(thing):
    """Whether it is a text that a part of a join may say."""
    if not isinstance(thing, str) or not 1 <= len(thing) <= LONGEST_SAYING:
        return False
    return all([sign in SAYING_SIGNS for sign in thing])


def _behind_table(sorts, step):
    _, field, sort, rows, other = step
    elder = _sort_of(sorts, field)
    if elder not in TESTED or not is_sort(sort) or sort not in TESTED:
        return None
    if not _are_rows(rows, elder, sort) or not _is_other(other, elder, sort):
        return None
    return {**sorts, field: sort}


def _are_rows(rows, elder, sort):
    """Whether these are the rows of a table that leads from the elder sort to the sort."""
    if not isinstance(rows, tuple) or len(rows) > MOST_ROWS:
        return False
    if not all([_is_row(row, elder, sort) for row in rows]):
        return False
    return len({row[0] for row in rows}) == len(rows)


def _is_row(row, elder, sort):
    """Whether it is a value of the elder sort with a new one of the sort."""
    if not isinstance(row, tuple) or len(row) != 2:
        return False
    return is_of_sort(row[0], elder) and is_of_sort(row[1], sort)


def _is_other(other, elder, sort):
    """Whether it tells what becomes of values of which a table has no row."""
    if other is None:
        return sort == elder
    return isinstance(other, tuple) and len(other) == 1 and is_of_sort(other[0], sort)


def _behind_case(sorts, step):
    _, field, value, yes, no = step
    sort = _sort_of(sorts, field)
    if sort not in TESTED or not is_of_sort(value, sort):
        return None
    # The place of a step within the case isn't told: the case as a whole doesn't fit then.
    try:
        sorts_of_yes = _sorts_behind(sorts, yes)
        sorts_of_no = _sorts_behind(sorts, no)
    except BadStep:
        return None
    return sorts_of_yes if sorts_of_yes == sorts_of_no else None


LENGTHS = {
    "rename": 3, "copy": 3, "drop": 2, "put": 4, "scale": 4, "sum": 3, "join": 3, "table": 5, "case": 5,
}
LEADS = {
    "rename": _behind_rename,
    "copy": _behind_copy,
    "drop": _behind_drop,
    "put": _behind_put,
    "scale": _behind_scale,
    "sum": _behind_sum,
    "join": _behind_join,
    "table": _behind_table,
    "case": _behind_case,
}


def kept_steps(steps):
    """A copy, tuples throughout, of steps that fit a form."""
    return tuple([_kept_step(step) for step in steps])


def _kept_step(step):
    if step[0] != "case":
        return step
    word, field, value, yes, no = step
    return (word, field, value, kept_steps(yes), kept_steps(no))


def done(form, steps, values):
    """The values that the steps, which fit the form, make of the values, in the order of the form behind them."""
    held = {field: value for (field, _), value in zip(form, values)}
    _do_steps(held, steps)
    return tuple([held[field] for field, _ in form_behind(form, steps)])


def _do_steps(held, steps):
    """Do the steps on the values that the fields hold."""
    for step in steps:
        deed = DEEDS[step[0]]
        deed(held, step)


def _do_rename(held, step):
    _, old, new = step
    held[new] = held.pop(old)


def _do_copy(held, step):
    _, old, new = step
    held[new] = held[old]


def _do_drop(held, step):
    del held[step[1]]


def _do_put(held, step):
    held[step[1]] = step[3]


def _do_scale(held, step):
    _, field, times, plus = step
    held[field] = held[field] * times + plus


def _do_sum(held, step):
    _, new, fields = step
    held[new] = sum([held[field] for field in fields])


def _do_join(held, step):
    _, new, parts = step
    held[new] = "".join([thing if word == "say" else held[thing] for word, thing in parts])


def _do_table(held, step):
    field, rows, other = step[1], step[3], step[4]
    for value, new_value in rows:
        if held[field] == value:
            held[field] = new_value
            return
    if other is not None:
        held[field] = other[0]


def _do_case(held, step):
    _, field, value, yes, no = step
    _do_steps(held, yes if held[field] == value else no)


DEEDS = {
    "rename": _do_rename,
    "copy": _do_copy,
    "drop": _do_drop,
    "put": _do_put,
    "scale": _do_scale,
    "sum": _do_sum,
    "join": _do_join,
    "table": _do_table,
    "case": _do_case,
}
