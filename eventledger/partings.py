"""Values of a square, and such ones as tell two outputs apart."""

from eventledger.outputs import value_of
from eventledger.steps import NUMBERS

LETTERS = "abcdefghijklmnopqrstuvwxyz"


def values_in(form, tests, choice):
    """Any values of the square that the choice, an answer to the tests, tells."""
    pairs = _pairs_of(form, tests, choice)
    return tuple([pairs[field][0] for field, _ in form])


def values_apart(form, tests, choice, one, other):
    """Values of the square by which two outputs, unlike as they are written, are unlike."""
    pairs = _pairs_of(form, tests, choice)
    held = {field: pairs[field][0] for field in pairs}
    # No value is empty, so texts that part where one of them ends are unlike at once. Where they part
    # at a field they are unlike by its first value or by its second one, which begins with another
    # letter; and so are numbers, whose difference is another one by the second value.
    tries = [held, *[{**held, field: pairs[field][1]} for field in pairs]]
    apart = [tried for tried in tries if value_of(one, tried) != value_of(other, tried)]
    return tuple([apart[0][field] for field, _ in form])


def _pairs_of(form, tests, choice):
    """Two values for each field in the square, twice the same one where the choice fixes it."""
    tested = {field: values for field, values in tests}
    settled = {field: value for field, value in choice if value is not None}
    pairs = {}
    for field, sort in form:
        if field in settled:
            pairs[field] = (settled[field], settled[field])
        elif sort in NUMBERS:
            pairs[field] = _two_numbers(tested.get(field, ()))
        else:
            pairs[field] = _two_words(tested.get(field, ()))
    return pairs


def _two_numbers(tested):
    """Two numbers that aren't tested."""
    numbers = [number for number in range(len(tested) + 2) if number not in tested]
    return (numbers[0], numbers[1])


def _two_words(tested):
    """Two words that aren't tested and begin with unlike letters."""
    words = []
    for first in LETTERS:
        free_words = [first + second for second in LETTERS if first + second not in tested]
        words.extend(free_words[:1])
    return (words[0], words[1])
