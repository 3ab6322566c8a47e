"""Forms, steps and values by chance, and what steps do, told another way than the program tells it."""

CODES = (-6, -2, -1, 0, 1, 2, 3, 4, 6, 10)
WORDS = ("a", "b", "ab", "zz", "abcdefgh")
TEXTS = ("", "a", "ab", "-", "A b", "x" * 40, 'say "hi"')
SAYINGS = ("a", "b", "-", " ", "0", "ab 9-", "abcdefghijkl")
NAMES = ("a", "b", "c", "d", "e", "f", "g", "h", "abcdefghijkl")
SORTS = ("code", "code", "word", "word", "amount", "text")


def some_form(chance):
    names = chance.sample(NAMES, chance.randint(1, 6))
    return tuple((name, chance.choice(SORTS)) for name in names)


def some_value(chance, sort):
    if sort == "word":
        return chance.choice(WORDS)
    if sort == "text":
        return chance.choice(TEXTS)
    return chance.choice(CODES)


def some_values(chance, form):
    return tuple(some_value(chance, sort) for _, sort in form)


def some_steps(chance, form, many, depth):
    """Steps that fit, and the list of (field, sort) behind them."""
    fields = list(form)
    steps = []
    for _ in range(many):
        step = some_step(chance, fields, depth)
        if step is not None:
            steps.append(step[0])
            fields = step[1]
    return (steps if chance.random() < 0.5 else tuple(steps)), fields


def some_steps_to_a_form(chance, form, many, depth):
    """As some_steps, but with one to six fields behind them."""
    steps, fields = some_steps(chance, form, many, depth)
    steps = list(steps)
    while len(fields) > 6:
        steps.append(("drop", fields[0][0]))
        fields = fields[1:]
    if not fields:
        steps.append(("put", "a", "word", "ab"))
        fields = [("a", "word")]
    return steps, tuple(fields)


def some_step(chance, fields, depth):
    """A step that fits and what is behind it, or None."""
    free_names = [name for name in NAMES if name not in dict(fields)]
    new = chance.choice(free_names) if free_names else None
    word = chance.choice(
        ("rename", "copy", "drop", "put", "scale", "scale", "sum", "join", "table", "table", "table")
        + ("case",) * (4 if depth else 0)
    )
    if word in ("rename", "copy", "put", "sum", "join") and new is None:
        return None
    if word == "put":
        sort = chance.choice(SORTS)
        return (word, new, sort, some_value(chance, sort)), fields + [(new, sort)]
    if word in ("rename", "copy", "drop"):
        return _moving(chance, word, fields, new)
    if word == "scale":
        return _scale(chance, fields)
    if word == "sum":
        numbers = [field for field, sort in fields if sort in ("code", "amount")]
        if not numbers:
            return None
        parts = tuple(chance.choice(numbers) for _ in range(chance.randint(1, 6)))
        return (word, new, parts), fields + [(new, "amount")]
    if word == "join":
        return _join(chance, fields, new)
    return _table(chance, fields) if word == "table" else _case(chance, fields, depth)


def _moving(chance, word, fields, new):
    if not fields:
        return None
    old, sort = chance.choice(fields)
    if word == "rename":
        return (word, old, new), [(new, sort) if field == old else (field, kind) for field, kind in fields]
    if word == "copy":
        return (word, old, new), fields + [(new, sort)]
    return (word, old), [field for field in fields if field[0] != old]


def _scale(chance, fields):
    numbers = [field for field, sort in fields if sort in ("code", "amount")]
    if not numbers:
        return None
    return ("scale", chance.choice(numbers), chance.choice((-2, -1, 0, 1, 2, 3)), chance.choice((-1, 0, 1, 2))), fields


def _join(chance, fields, new):
    texts = [field for field, sort in fields if sort in ("word", "text")]
    parts = []
    for _ in range(chance.randint(1, 8)):
        if texts and chance.random() < 0.6:
            parts.append(("field", chance.choice(texts)))
        else:
            parts.append(("say", chance.choice(SAYINGS)))
    return ("join", new, tuple(parts)), fields + [(new, "text")]


def _tested(chance, fields):
    tested = [field for field in fields if field[1] in ("code", "word")]
    return chance.choice(tested) if tested else (None, None)


def _table(chance, fields):
    field, sort = _tested(chance, fields)
    if field is None:
        return None
    new_sort = chance.choice(("code", "word"))
    values = chance.sample(WORDS if sort == "word" else CODES, chance.randint(0, 4))
    rows = tuple((value, some_value(chance, new_sort)) for value in values)
    other = None if sort == new_sort and chance.random() < 0.7 else (some_value(chance, new_sort),)
    behind = [(name, new_sort if name == field else kind) for name, kind in fields]
    return ("table", field, new_sort, rows, other), behind


def _case(chance, fields, depth):
    field, sort = _tested(chance, fields)
    if field is None:
        return None
    yes, behind = some_steps(chance, fields, chance.randint(0, 3), depth - 1)
    no, ends = some_steps(chance, fields, chance.randint(0, 3), depth - 1)
    no = list(no) + _lead(chance, ends, behind)
    return ("case", field, some_value(chance, sort), yes, no if chance.random() < 0.5 else tuple(no)), behind


def _lead(chance, fields, wanted):
    """Steps that lead from fields to the wanted ones, in any order."""
    steps = [("drop", field) for field, sort in fields if (field, sort) not in wanted]
    kept = [field for field in fields if field in wanted]
    missing = [field for field in wanted if field not in kept]
    chance.shuffle(missing)
    for field, sort in missing:
        alike = [name for name, kind in kept if kind == sort]
        if alike and chance.random() < 0.5:
            steps.append(("copy", chance.choice(alike), field))
        else:
            steps.append(("put", field, sort, some_value(chance, sort)))
        kept.append((field, sort))
    return steps


def run(form, steps, values):
    """What steps make of values, and the tests on their way of fields that aren't settled there.

    Each value is held with where it comes from: (field, times, plus) of the first form, or None.
    """
    held = {}
    for (field, sort), value in zip(form, values):
        held[field] = (value, (field, 1, 0) if sort in ("code", "word") else None)
    settled, met = set(), []
    _run(held, steps, settled, met)
    return {field: value for field, (value, _) in held.items()}, met


def _asks(held, field, value, settled, met):
    found, source = held[field]
    if source is not None and source[0] not in settled:
        first, times, plus = source
        if isinstance(value, str):
            met.append((first, value))
        elif (value - plus) % times == 0:
            met.append((first, (value - plus) // times))
        if found == value:
            settled.add(first)
    return found == value


def _run(held, steps, settled, met):
    for step in steps:
        word, field = step[:2]
        if word == "rename":
            held[step[2]] = held.pop(field)
        elif word == "copy":
            held[step[2]] = held[field]
        elif word == "drop":
            del held[field]
        elif word == "put":
            held[field] = (step[3], None)
        elif word == "scale":
            value, source = held[field]
            if source is not None:
                source = (source[0], source[1] * step[2], source[2] * step[2] + step[3]) if step[2] else None
            held[field] = (value * step[2] + step[3], source)
        elif word == "sum":
            held[field] = (sum(held[name][0] for name in step[2]), None)
        elif word == "join":
            held[field] = ("".join(part if kind == "say" else held[part][0] for kind, part in step[2]), None)
        elif word == "table":
            _run_table(held, step, settled, met)
        else:
            _run(held, step[3] if _asks(held, field, step[2], settled, met) else step[4], settled, met)


def _run_table(held, step, settled, met):
    _, field, _, rows, other = step
    for value, new in rows:
        if _asks(held, field, value, settled, met):
            held[field] = (new, None)
            return
    if other is not None:
        held[field] = (other[0], None)
