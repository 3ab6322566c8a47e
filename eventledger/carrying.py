"""Carrying over: whether two projections do the same by every event."""

from eventledger.errors import NoWay, OtherCells
from eventledger.forms import is_whole
from eventledger.outputs import fixed, is_fixed
from eventledger.partings import values_apart, values_in
from eventledger.projections import FORGET
from eventledger.squares import normal, tests_of, tests_together
from eventledger.steps import form_behind


def same_deeds(kinds, elder, newer):
    """("same",) where both tell the same deeds by every event, else ("differ", kind, version, values)."""
    if elder[1] != newer[1]:
        raise OtherCells()
    for kind in sorted({name: True for name, _ in (*elder[0], *newer[0])}):
        for version in range(1, kinds.versions(kind) + 1):
            if _is_looked_at(kinds, kind, version, _read_by(elder, kind), _read_by(newer, kind)):
                values = _values_apart(kinds, kind, version, elder, newer)
                if values is not None:
                    return ("differ", kind, version, values)
    return ("same",)


def _read_by(projection, kind):
    """The version of the kind that the projection reads, None where it reads none."""
    for name, version in projection[0]:
        if name == kind:
            return version
    return None


def _is_looked_at(kinds, kind, version, elder_late, newer_late):
    """Whether events of the version are looked at, by the versions that the two projections read."""
    if elder_late is None:
        return kinds.is_way(kind, version, newer_late)
    if not kinds.is_way(kind, version, elder_late):
        return False
    if newer_late is not None and not kinds.is_way(kind, version, newer_late):
        raise NoWay(version, newer_late)
    return True


def _values_apart(kinds, kind, version, elder, newer):
    """Values of the version by which two projections tell unlike deeds, None where there are none."""
    form = kinds.form_of(kind, version)
    ways = [_way_and_rules(kinds, kind, version, projection) for projection in (elder, newer)]
    tests = tests_together(form, [tests_of(form, (*way, *_as_cases(rules))) for way, rules in ways])
    told = [_deeds_by_square(form, way, rules, tests) for way, rules in ways]
    for (choice, one), (_, other) in zip(told[0], told[1]):
        if _shape_of(one) != _shape_of(other):
            return values_in(form, tests, choice)
        for output, other_output in zip(_outputs_of(one), _outputs_of(other)):
            if output != other_output:
                return values_apart(form, tests, choice, output, other_output)
    return None


def _way_and_rules(kinds, kind, version, projection):
    """The steps to the version that the projection reads, and its rules of the kind; none where it reads none."""
    late = _read_by(projection, kind)
    if late is None:
        return (), ()
    return kinds.way(kind, version, late), [rule for rule in projection[2] if rule[0] == kind]


def _as_cases(rules):
    """Steps that test what the conditions of the rules test, and do nothing."""
    return [("case", field, value, (), ()) for _, conditions, _, _ in rules for field, value in conditions]


def _deeds_by_square(form, way, rules, tests):
    """For each square (choice, deeds), deeds as they are told, but with outputs instead of values."""
    fields = [field for field, _ in form_behind(form, way)]
    squares = []
    for choice, outputs in normal(form, way, tests=tests):
        held = {field: output for field, output in zip(fields, outputs)}
        deeds = []
        for _, conditions, key, changes in rules:
            if all([_is_value(held[field], value) for field, value in conditions]):
                deeds.extend(_deeds_told(key, changes, held))
        squares.append((choice, deeds))
    return squares


def _is_value(output, value):
    """Whether the output of a field is the value, in squares of which the tests ask for it."""
    return is_fixed(output) and output[1] == value


def _deeds_told(key, changes, held):
    """The deeds of a rule whose conditions hold, where the fields hold these outputs."""
    outputs = [_output_of(part, held) for part in key]
    if changes == FORGET:
        return [(outputs, "forget", None, None)]
    return [(outputs, word, cell, _output_of(amount, held)) for word, cell, amount in changes]


def _output_of(part, held):
    """The output of a part of a key, or of an amount."""
    word, thing = part
    if word == "field":
        return held[thing]
    return fixed(thing, "code" if is_whole(thing) else "word")


def _shape_of(deeds):
    """All of the deeds but their outputs."""
    return [(len(key), word, cell) for key, word, cell, _ in deeds]


def _outputs_of(deeds):
    """The outputs in the deeds, in order."""
    outputs = []
    for key, _, _, amount in deeds:
        outputs.extend([*key, amount] if amount is not None else key)
    return outputs
