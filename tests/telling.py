"""Kinds, projections and events by chance, and the tables of them, told another way than the program tells them."""

from eventledger.kinds import Kinds
from making import run, some_value

FORMS = {
    ("bill", 1): (("no", "code"), ("sum", "amount"), ("who", "word")),
    ("bill", 2): (("who", "word"), ("no", "code"), ("sum", "amount"), ("note", "text")),
    ("bill", 3): (("no", "code"), ("who", "word"), ("due", "amount"), ("mark", "code")),
    ("move", 1): (("from", "word"), ("to", "word")),
    ("move", 2): (("to", "word"), ("far", "amount"), ("day", "code")),
    ("note", 1): (("text", "text"),),
}
UPCASTS = {
    ("bill", 1, 2): [("put", "note", "text", "of old"), ("scale", "sum", 100, 0)],
    ("bill", 2, 3): [
        ("drop", "note"), ("rename", "sum", "due"), ("copy", "who", "mark"),
        ("table", "mark", "code", (("a", 1), ("b", 2)), (0,)), ("table", "who", "word", (("zz", "a"),), None),
    ],
    ("bill", 1, 3): [
        ("scale", "sum", 50, 0), ("rename", "sum", "due"), ("scale", "due", 2, 0),
        ("case", "who", "a", [("put", "mark", "code", 1)],
         [("case", "who", "b", [("put", "mark", "code", 2)], [("put", "mark", "code", 0)])]),
        ("case", "who", "zz", [("drop", "who"), ("put", "who", "word", "a")],
         [("copy", "who", "z"), ("drop", "who"), ("rename", "z", "who")]),
    ],
    ("move", 1, 2): [
        ("put", "far", "amount", 1), ("rename", "from", "day"),
        ("table", "day", "code", (("a", 3), ("ab", 4)), (6,)),
    ],
}


def some_kinds():
    """The kinds of all of these forms."""
    kinds = Kinds()
    for (kind, _), form in FORMS.items():
        kinds.form(kind, form)
    for (kind, start, end), steps in UPCASTS.items():
        kinds.upcast(kind, start, end, steps)
    return kinds


def some_projection(chance, kinds=("bill", "move", "note"), cells=None, rules=8):
    """A projection that reads the newest versions, or elder ones."""
    reads = []
    for kind in sorted(kinds):
        if chance.random() < 0.8:
            reads.append((kind, chance.choice([version for name, version in FORMS if name == kind])))
    if cells is None:
        cells = tuple((name, chance.choice((-3, 0, 0, 5))) for name in chance.sample("pqrs", chance.randint(1, 4)))
    told = [some_rule(chance, reads, cells) for _ in range(chance.randint(0, rules))] if reads else []
    return (tuple(reads), cells, tuple(told))


def some_rule(chance, reads, cells):
    kind, version = chance.choice(reads)
    form = FORMS[(kind, version)]
    tested = [(field, sort) for field, sort in form if sort in ("code", "word")]
    numbers = [field for field, sort in form if sort in ("code", "amount")]
    asked = chance.sample(tested, chance.randint(0, min(1, len(tested))))
    conditions = tuple((field, some_value(chance, sort)) for field, sort in asked)
    key = []
    for _ in range(chance.choice((0, 1, 1, 2, 3))):
        if tested and chance.random() < 0.6:
            key.append(("field", chance.choice(tested)[0]))
        else:
            key.append(("value", chance.choice((0, 1, "a", "b"))))
    if chance.random() < 0.15:
        return (kind, conditions, tuple(key), (("forget",),))
    deeds = []
    for _ in range(chance.choice((1, 1, 2, 5))):
        amount = ("number", chance.choice((-7, -1, 0, 1, 2, 9)))
        if numbers and chance.random() < 0.6:
            amount = ("field", chance.choice(numbers))
        deeds.append((chance.choice(("add", "add", "least", "most", "set")), chance.choice(cells)[0], amount))
    return (kind, conditions, tuple(key), tuple(deeds))


def some_event(chance, projection=None):
    """An event, of a version that the projection can read where one is told."""
    reads = dict(projection[0]) if projection else {}
    kind, version = chance.choice([pair for pair in FORMS if pair[1] <= reads.get(pair[0], 99)])
    return (kind, version, tuple(some_value(chance, sort) for _, sort in FORMS[(kind, version)]))


def some_events(chance, projection, many):
    return [some_event(chance, projection) for _ in range(many)]


def raised_as_told(event, late):
    """What the fields of the later version hold, by the upcast with the most steps on the way."""
    kind, version, values = event
    held = dict(zip([field for field, _ in FORMS[(kind, version)]], values))
    while version < late:
        ends = [end for name, start, end in UPCASTS if (name, start) == (kind, version) and end <= late]
        form = FORMS[(kind, version)]
        held, _ = run(form, UPCASTS[(kind, version, min(ends))], tuple(held[field] for field, _ in form))
        version = min(ends)
    return held


def deeds_as_told(projection, event):
    reads, _, rules = projection
    if event[0] not in dict(reads):
        return []
    held = raised_as_told(event, dict(reads)[event[0]])
    told = []
    for kind, conditions, key, deeds in rules:
        if kind != event[0] or any(held[field] != value for field, value in conditions):
            continue
        values = tuple(held[thing] if word == "field" else thing for word, thing in key)
        for deed in deeds:
            if deed == ("forget",):
                told.append((values, "forget", None, None))
            else:
                word, cell, (source, thing) = deed
                told.append((values, word, cell, held[thing] if source == "field" else thing))
    return told


def table_as_told(projection, events, table=None):
    rows = {key: list(row) for key, row in (table or {}).items()}
    cells = [cell for cell, _ in projection[1]]
    for event in events:
        for key, word, cell, number in deeds_as_told(projection, event):
            if word == "forget":
                rows.pop(key, None)
                continue
            row = rows.setdefault(key, [start for _, start in projection[1]])
            at = cells.index(cell)
            if word == "add":
                row[at] += number
            elif word == "set" or (word == "least" and row[at] < number) or (word == "most" and row[at] > number):
                row[at] = number
    return {key: tuple(row) for key, row in rows.items()}
