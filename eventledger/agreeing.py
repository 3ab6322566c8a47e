"""Whether two lists of steps make the same of all values."""

from eventledger.errors import WrongEnd
from eventledger.partings import values_apart
from eventledger.squares import normal, tests_of, tests_together
from eventledger.steps import form_behind


def agreement(form, one, other):
    """("agree", rows), rows the first one's normal form by the tests of both, or ("differ", values)."""
    behind = form_behind(form, one)
    behind_other = form_behind(form, other)
    if dict(behind) != dict(behind_other):
        raise WrongEnd()
    tests = tests_together(form, [tests_of(form, one), tests_of(form, other)])
    rows = normal(form, one, tests=tests)
    other_fields = [field for field, _ in behind_other]
    places = [other_fields.index(field) for field, _ in behind]
    for (choice, outputs), (_, others) in zip(rows, normal(form, other, tests=tests)):
        for output, place in zip(outputs, places):
            if output != others[place]:
                return ("differ", values_apart(form, tests, choice, output, others[place]))
    return ("agree", rows)
