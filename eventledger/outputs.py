"""Outputs: what a field is made of, told by the fields of the first form, as in normal forms."""


def free(field, sort):
    """The output of a field that is as the first form has it."""
    if sort == "word":
        return ("same", field)
    if sort == "text":
        return ("text", (("field", field),))
    return ("number", 0, ((field, 1),))


def fixed(value, sort):
    """The output of a field that is always this value of the sort."""
    if sort == "word":
        return ("word", value)
    if sort == "text":
        return text_of([("say", value)])
    return ("number", value, ())


def scaled(output, times, plus):
    """The output of a number, scaled."""
    _, constant, parts = output
    if times == 0:
        return ("number", plus, ())
    return ("number", constant * times + plus, tuple([(field, factor * times) for field, factor in parts]))


def added(form, outputs):
    """The output of the sum of numbers; the form is the first one, whose order the parts have."""
    total = 0
    factors = {}
    for _, constant, parts in outputs:
        total += constant
        for field, factor in parts:
            factors[field] = factors.get(field, 0) + factor
    return ("number", total, tuple([(field, factors[field]) for field, _ in form if factors.get(field, 0) != 0]))


def text_of(parts):
    """The output of parts of a text, one behind the other."""
    joined = []
    for word, thing in parts:
        if word == "say" and joined and joined[-1][0] == "say":
            joined[-1] = ("say", joined[-1][1] + thing)
        elif thing != "":
            joined.append((word, thing))
    return ("text", tuple(joined))


def parts_of(output):
    """The parts that a word or a text is in a longer text."""
    word, thing = output
    if word == "word":
        return (("say", thing),)
    if word == "same":
        return (("field", thing),)
    return thing


def is_fixed(output):
    """Whether the output of a code or a word is one value, whatever the fields are."""
    return output[0] == "word" or (output[0] == "number" and output[2] == ())


def field_value_of(output, value):
    """The field and its only value by which the output, a code or a word, is this value, None where there is none.

    Asked of outputs that aren't fixed.
    """
    if output[0] == "same":
        return (output[1], value)
    _, constant, parts = output
    field, factor = parts[0]
    quotient, rest = divmod(value - constant, factor)
    return (field, quotient) if rest == 0 else None


def value_of(output, held):
    """The value that the output is where the fields of the first form hold these values."""
    word = output[0]
    if word == "number":
        return output[1] + sum([factor * held[field] for field, factor in output[2]])
    if word == "word":
        return output[1]
    if word == "same":
        return held[output[1]]
    return "".join([thing if part == "say" else held[thing] for part, thing in output[1]])
