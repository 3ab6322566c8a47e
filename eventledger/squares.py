"""Squares: the values of a form parted by tests, and what steps make of those in each."""

from eventledger.outputs import added, field_value_of, fixed, free, is_fixed, parts_of, scaled, text_of, value_of
from eventledger.steps import form_behind


def tests_of(form, steps):
    """The values of fields that the steps test."""
    found = {field: {} for field, _ in form}
    waiting = [()]
    seen = {(): True}
    # All other values answer no to each test, so a walk meets those of which its choice doesn't
    # settle the field; a yes to one of them leads to a choice that settles one field more.
    while waiting:
        choice = waiting.pop()
        walk = _walked(form, steps, choice)
        for field, value in walk.met:
            found[field][value] = True
            wider = _settled(form, choice, field, value)
            if wider not in seen:
                seen[wider] = True
                waiting.append(wider)
    return _as_tests(form, found)


def tests_together(form, many):
    """Several tests put into one, each a tuple of fields with their values."""
    found = {field: {} for field, _ in form}
    for tests in many:
        for field, values in tests:
            for value in values:
                found[field][value] = True
    return _as_tests(form, found)


def _as_tests(form, found):
    """The tests of the values that were found, dicts of True, of each field."""
    return tuple([(field, tuple(sorted(found[field]))) for field, _ in form if found[field]])


def _settled(form, choice, field, value):
    """The choice that settles this field, too, in the form's order."""
    values = {name: settled for name, settled in choice}
    values[field] = value
    return tuple([(name, values[name]) for name, _ in form if name in values])


def normal(form, steps, *, tests=None):
    """The normal form of the steps, by tests that have all of their own."""
    if tests is None:
        tests = tests_of(form, steps)
    order = [field for field, _ in form_behind(form, steps)]
    rows = []
    for choice in choices_of(tests):
        walk = _walked(form, steps, choice)
        rows.append((choice, tuple([walk.outputs[field] for field in order])))
    return rows


def choices_of(tests):
    """All choices that answer the tests, the last field changing first."""
    choices = [()]
    for field, values in tests:
        choices = [(*choice, (field, value)) for choice in choices for value in (*values, None)]
    return choices


def value_by(rows, form, values):
    """What the square of the values makes of them, by the rows of a normal form."""
    held = {field: value for (field, _), value in zip(form, values)}
    # None comes last, so a value that is tested has met its own square ahead of it, and the last
    # square takes whatever no other one takes.
    for choice, outputs in rows:
        if all([value is None or held[field] == value for field, value in choice]):
            break
    return tuple([value_of(output, held) for output in outputs])


class Walk:
    """Steps done on the outputs of fields instead of values."""

    def __init__(self, first_form, outputs):
        self.first_form = first_form
        self.outputs = outputs
        # The tests of fields that aren't settled, as (field, value); each answers no.
        self.met = []


def _walked(form, steps, choice):
    """The walk through the steps of the values that the choice tells, others than the tested ones for None."""
    values = {field: value for field, value in choice if value is not None}
    outputs = {}
    for field, sort in form:
        outputs[field] = fixed(values[field], sort) if field in values else free(field, sort)
    walk = Walk(form, outputs)
    _walk_steps(walk, steps)
    return walk


def _walk_steps(walk, steps):
    """Walk through the steps."""
    for step in steps:
        go = WALKS[step[0]]
        go(walk, step)


def _answer(walk, field, value):
    """Whether the field is the value; noted as met where that isn't settled."""
    output = walk.outputs[field]
    if is_fixed(output):
        return output[1] == value
    test = field_value_of(output, value)
    if test is not None:
        walk.met.append(test)
    return False


def _walk_rename(walk, step):
    _, old, new = step
    walk.outputs[new] = walk.outputs.pop(old)


def _walk_copy(walk, step):
    _, old, new = step
    walk.outputs[new] = walk.outputs[old]


def _walk_drop(walk, step):
    del walk.outputs[step[1]]


def _walk_put(walk, step):
    _, new, sort, value = step
    walk.outputs[new] = fixed(value, sort)


def _walk_scale(walk, step):
    _, field, times, plus = step
    walk.outputs[field] = scaled(walk.outputs[field], times, plus)


def _walk_sum(walk, step):
    _, new, fields = step
    walk.outputs[new] = added(walk.first_form, [walk.outputs[field] for field in fields])


def _walk_join(walk, step):
    _, new, parts = step
    joined = []
    for word, thing in parts:
        joined.extend([(word, thing)] if word == "say" else parts_of(walk.outputs[thing]))
    walk.outputs[new] = text_of(joined)


def _walk_table(walk, step):
    _, field, sort, rows, other = step
    for value, new_value in rows:
        if _answer(walk, field, value):
            walk.outputs[field] = fixed(new_value, sort)
            return
    if other is not None:
        walk.outputs[field] = fixed(other[0], sort)


def _walk_case(walk, step):
    _, field, value, yes, no = step
    _walk_steps(walk, yes if _answer(walk, field, value) else no)


WALKS = {
    "rename": _walk_rename,
    "copy": _walk_copy,
    "drop": _walk_drop,
    "put": _walk_put,
    "scale": _walk_scale,
    "sum": _walk_sum,
    "join": _walk_join,
    "table": _walk_table,
    "case": _walk_case,
}
